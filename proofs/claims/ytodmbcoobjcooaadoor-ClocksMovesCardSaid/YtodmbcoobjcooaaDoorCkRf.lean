/-
  The specification's within, ValidClock, ValidTrack. Condition: the slices lie in memory.
  The specification's Segment, jumped, Beginning. Condition: the slices lie in memory.
  The specification's Has, Check. Condition: the system lies in memory.
-/
import Derived.Test.YtodmbcoobjcooaaDoorCkFirst
import Derived.Test.YtodmbcoobjcooaaDoorCkNets
namespace Go.Proofs.YtodmbcoobjcooaaDoor
open Go Go.RowKit Go.Shelf
attribute [local go_sem] Oper.semAt_some
theorem rf_within (n lo hi : Int) (w : World) : Calls Tryd.prog 67 #[.int .i64 n, .int .i64 lo, .int .i64 hi] w fun e w' => e = .returned (.bool (wiB n lo hi)) ∧ w = w' := by
  by_cases h1 : lo ≤ n
  · go_enter Tryd.func67, Tryd.ntmps67
    go_wp2_with fail
    go_ret
    exact ⟨ret_bool (by simp [wiB, h1]), rfl⟩
  · have h1' : decide (lo ≤ n) = false := by simpa using h1
    go_enter Tryd.func67, Tryd.ntmps67
    go_wp2_with fail
    go_ret
    exact ⟨ret_bool (by simp only [wiB, h1', Bool.false_and]), rfl⟩
theorem rf_withinIs {n lo hi : Int} {x : Bool} (h : wiB n lo hi = x) (w : World) : Calls Tryd.prog 67 #[.int .i64 n, .int .i64 lo, .int .i64 hi] w fun e w' => e = .returned (.bool x) ∧ w = w' := h ▸ rf_within n lo hi w
/-- The number ahead of a place, or what stands ahead of the first one. -/
def prevI (l : List Int) (z : Int) : Nat → Int
  | 0 => z
  | k + 1 => l[k]?.getD 0
theorem jumps_prev {l : List Int} {k : Nat} (h : k < l.length) : jumpsB (prevI l (-1) k) (l.drop k) = (wiB (l[k]?.getD 0) (prevI l (-1) k + 1) 20000 && jumpsB (prevI l (-1) (k + 1)) (l.drop (k + 1))) := by rw [drop_int h, jumpsB]; rfl
theorem times_prev {l : List Int} {k : Nat} (h : k < l.length) : timesB (prevI l 0 k) (l.drop k) = (wiB (l[k]?.getD 0) (prevI l 0 k) 20000 && timesB (prevI l 0 (k + 1)) (l.drop (k + 1))) := by rw [drop_int h, timesB]; rfl
set_option maxRecDepth 100000 in
set_option maxHeartbeats 4000000 in
theorem rf_ValidClock (t : Tk) (J : Option Addr) (c : Nat) (w : World) (hJ : IntsA w J t.jumps) :
    Calls Tryd.prog 22 #[.agg #[.int .i64 t.slip, .int .i64 t.drift, .slice J t.jumps.length c]] w fun e w' => e = .returned (.bool (clockB t)) ∧ New w w' := by
  obtain ⟨a, d, l, times⟩ := t
  dsimp only at hJ ⊢
  have n1 := (New.refl w).alloc (.cells #[.int .i64 a, .int .i64 d, .slice J l.length c] 28)
  have r1 := RowIs.new w 28 [.int .i64 a, .int .i64 d, .slice J l.length c]
  have hm := hJ.1
  have HJ := Lib.hid (hJ.keep n1)
  have HN := Lib.hid n1
  have HR := Lib.hid r1
  have HB : Hid (clockB ⟨a, d, l, times⟩ = (jumpsB (-1) l && (wiB a 0 1440 && (wiB d 0 100 && decide (l.length ≤ 16))))) := Lib.hid rfl
  have c0 := r1.cell (i := 0) rfl
  have c1 := r1.cell (i := 1) rfl
  have c2 := r1.cell (i := 2) rfl
  clear hJ n1 r1
  cases h1 : wiB a 0 1440 with
  | false =>
    rw [h1, Bool.false_and, Bool.and_false] at HB
    have H1 := Lib.hid h1
    clear h1
    go_enter Tryd.func22, Tryd.ntmps22
    go_wp2_with (go_at_call 67; refine (rf_withinIs H1.out _).mono ?_; rintro e w' ⟨rfl, rfl⟩)
    go_ret
    exact ⟨ret_bool HB.out.symm, HN.out⟩
  | true =>
  rw [h1, Bool.true_and] at HB
  have H1 := Lib.hid h1
  clear h1
  cases h2 : wiB d 0 100 with
  | false =>
    rw [h2, Bool.false_and, Bool.and_false] at HB
    have H2 := Lib.hid h2
    clear h2
    go_enter Tryd.func22, Tryd.ntmps22
    go_wp2_with fail
    refine (rf_withinIs H1.out _).mono ?_
    rintro e w' ⟨rfl, rfl⟩
    go_wp2_with fail
    refine (rf_withinIs H2.out _).mono ?_
    rintro e w' ⟨rfl, rfl⟩
    go_wp2_with fail
    go_ret
    exact ⟨ret_bool HB.out.symm, HN.out⟩
  | true =>
  rw [h2, Bool.true_and] at HB
  have H2 := Lib.hid h2
  clear h2
  by_cases h3 : l.length ≤ 16
  · have h3' : decide (16 < (l.length : Int)) = false := by simp; omega
    have h3t : decide (l.length ≤ 16) = true := by simpa using h3
    rw [h3t, Bool.and_true] at HB
    clear h3t
    go_enter Tryd.func22, Tryd.ntmps22
    go_wp2_with fail
    refine (rf_withinIs H1.out _).mono ?_
    rintro e w' ⟨rfl, rfl⟩
    go_wp2_with fail
    refine (rf_withinIs H2.out _).mono ?_
    rintro e w' ⟨rfl, rfl⟩
    go_wp2_with fail
    generalize hW1 : w.alloc (.cells #[.int .i64 a, .int .i64 d, .slice J l.length c] 28) = W1 at *
    clear hW1
    go_loopw [3] (fun i wr => ∃ k : Nat, k ≤ l.length ∧ i = .int .i64 k ∧ New W1 wr ∧ (0 < k → 0 ≤ prevI l (-1) k) ∧ jumpsB (-1) l = jumpsB (prevI l (-1) k) (l.drop k)) (fun i _ => l.length - (intOf i).toNat)
    case atStart => exact ⟨0, Nat.zero_le _, rfl, New.refl _, fun h => absurd h (Nat.lt_irrefl 0), rfl⟩
    case round =>
      obtain ⟨k, hk, rfl, hn, hp, hj⟩ := hrel
      have HK := Lib.hid hj
      clear hj c0 c1 c2
      have c2 := (HR.out.keep hn).cell (i := 2) rfl
      have HNW := Lib.hid hn
      by_cases hlt : k < l.length
      · obtain ⟨b, off, rfl, -, hc⟩ := (HJ.out.keep hn).2 (by omega)
        have z := hc k hlt
        have HS := Lib.hid (HK.out.trans (jumps_prev hlt))
        have HP := Lib.hid hp
        have HPN : Hid (prevI l (-1) (k + 1) = l[k]?.getD 0) := Lib.hid rfl
        have ik : (k : Int) < (l.length : Int) := by omega
        have zp : ∀ j, k = j + 1 → wr.cell? ⟨b, off + j, none⟩ = some (.int .i64 (prevI l (-1) k)) := fun j e => by
          subst e
          exact hc j (by omega)
        clear hc HK hn hp
        generalize hpk : prevI l (-1) k = p at *
        generalize l[k]?.getD 0 = x at *
        cases hw : wiB x 0 20000 with
        | false =>
          have HF : Hid (jumpsB (-1) l = false) := Lib.hid (by
            have : wiB x (p + 1) 20000 = false := by
              rcases Nat.eq_zero_or_pos k with h0 | h0
              · subst h0
                have : p = -1 := hpk.symm
                rw [this]; exact hw
              · have := HP.out h0
                simp only [wiB, Bool.and_eq_false_iff, decide_eq_false_iff_not] at hw ⊢
                omega
            rw [HS.out, this, Bool.false_and])
          have HW := Lib.hid hw
          clear hw hpk zp
          go_wp2_with fail
          go_quiet ((go_at_call 67; exact quiet_same (rf_withinIs HW.out _)))
          go_wp2_with fail
          go_ret
          exact ⟨ret_bool (by rw [HB.out, HF.out]), HN.out.trans (HNW.out.trans ((New.refl _).drewN nq))⟩
        | true =>
          have HW := Lib.hid hw
          have hwx := wiB_iff.1 hw
          clear hw
          rcases k with _ | j
          · have hpe : p = -1 := hpk.symm
            subst hpe
            have hw2 : wiB x (-1 + 1) 20000 = true := HW.out
            rw [hw2, Bool.true_and] at HS
            clear hw2 zp hpk
            simp only [Nat.add_zero, Int.natCast_zero] at *
            go_wp2_with fail
            go_quiet ((go_at_call 67; exact quiet_same (rf_withinIs HW.out _)))
            go_wp2_with fail
            go_roundw
            case rel => exact ⟨1, by omega, by go_num, HNW.out.trans ((New.refl _).drewN nq), fun _ => by rw [HPN.out]; exact hwx.1, HS.out⟩
            case measure => simp [intOf]; omega
          · have zj := zp j rfl
            have hp0 := HP.out (by omega)
            have hwr : IntKind.i64.wrap (((j + 1 : Nat) : Int) - 1) = (j : Int) := by rw [IntWalk.i64_in _ (by omega)]; omega
            have ij : (j : Int) < (l.length : Int) := by omega
            clear zp hpk
            by_cases hxp : x ≤ p
            · have hd : decide (x ≤ p) = true := by simpa using hxp
              have hw2 : wiB x (p + 1) 20000 = false := by simp only [wiB, Bool.and_eq_false_iff, decide_eq_false_iff_not]; omega
              rw [hw2, Bool.false_and] at HS
              clear hw2
              go_wp2_with fail
              go_quiet ((go_at_call 67; exact quiet_same (rf_withinIs HW.out _)))
              go_wp2_with fail
              go_ret
              exact ⟨ret_bool (by rw [HB.out, HS.out]), HN.out.trans (HNW.out.trans ((New.refl _).drewN nq))⟩
            · have hd : decide (x ≤ p) = false := by simpa using hxp
              have hw2 : wiB x (p + 1) 20000 = true := wiB_iff.2 (by omega)
              rw [hw2, Bool.true_and] at HS
              clear hw2
              go_wp2_with fail
              go_quiet ((go_at_call 67; exact quiet_same (rf_withinIs HW.out _)))
              go_wp2_with fail
              go_roundw
              case rel => exact ⟨j + 1 + 1, by omega, by go_num, HNW.out.trans ((New.refl _).drewN nq), fun _ => by rw [HPN.out]; exact hwx.1, HS.out⟩
              case measure => simp [intOf]; omega
      · obtain rfl : k = l.length := by omega
        rw [List.drop_of_length_le (Nat.le_refl _)] at HK
        have HT : Hid (jumpsB (-1) l = true) := Lib.hid HK.out
        clear HK hn
        go_wp2_with fail
        go_ret
        exact ⟨ret_bool (by rw [HB.out, HT.out]), HN.out.trans HNW.out⟩
  · have h3' : decide (16 < (l.length : Int)) = true := by simp; omega
    have h3t : decide (l.length ≤ 16) = false := by simp; omega
    rw [h3t, Bool.and_false] at HB
    clear h3t
    go_enter Tryd.func22, Tryd.ntmps22
    go_wp2_with fail
    refine (rf_withinIs H1.out _).mono ?_
    rintro e w' ⟨rfl, rfl⟩
    go_wp2_with fail
    refine (rf_withinIs H2.out _).mono ?_
    rintro e w' ⟨rfl, rfl⟩
    go_wp2_with fail
    go_ret
    exact ⟨ret_bool HB.out.symm, HN.out⟩
set_option maxRecDepth 100000 in
set_option maxHeartbeats 4000000 in
theorem rf_ValidTrack (t : Tk) (J T : Option Addr) (c d : Nat) (w : World) (hJ : TkM w J T t) :
    Calls Tryd.prog 24 #[.agg #[.int .i64 t.slip, .int .i64 t.drift, .slice J t.jumps.length c, .slice T t.times.length d]] w fun e w' => e = .returned (.bool (trackB t)) ∧ New w w' := by
  have HVC : Hid (∀ w', New w w' → Calls Tryd.prog 22 #[.agg #[.int .i64 t.slip, .int .i64 t.drift, .slice J t.jumps.length c]] w' fun e w'' => e = .returned (.bool (clockB t)) ∧ New w' w'') := Lib.hid fun w' h => rf_ValidClock t J c w' (hJ.1.keep h)
  have HB : Hid (trackB t = (timesB 0 t.times && (clockB t && decide (t.times.length ≤ 400)))) := Lib.hid rfl
  generalize clockB t = cb at *
  generalize trackB t = tb at *
  obtain ⟨sl, dr, js, l⟩ := t
  obtain ⟨hj, ht⟩ := hJ
  dsimp only at *
  have n1 := (New.refl w).alloc (.cells #[.int .i64 sl, .int .i64 dr, .slice J js.length c, .slice T l.length d] 30)
  have r1 := RowIs.new w 30 [.int .i64 sl, .int .i64 dr, .slice J js.length c, .slice T l.length d]
  have hm := ht.1
  have HN := Lib.hid n1
  have HR1 := Lib.hid r1
  have HT := Lib.hid ht
  have c0 := r1.cell (i := 0) rfl
  have c1 := r1.cell (i := 1) rfl
  have c2 := r1.cell (i := 2) rfl
  clear hj ht n1 r1
  cases cb with
  | false =>
    rw [Bool.false_and, Bool.and_false] at HB
    go_enter Tryd.func24, Tryd.ntmps24
    go_wp2_with fail
    refine (HVC.out _ HN.out).mono ?_
    rintro e w1 ⟨rfl, m1⟩
    go_wp2_with fail
    go_ret
    exact ⟨ret_bool HB.out.symm, HN.out.trans m1⟩
  | true =>
  rw [Bool.true_and] at HB
  go_enter Tryd.func24, Tryd.ntmps24
  go_wp2_with fail
  refine (HVC.out _ HN.out).mono ?_
  rintro e W1 ⟨rfl, m1⟩
  have HN1 := Lib.hid (HN.out.trans m1)
  have HR := Lib.hid (HR1.out.keep m1)
  have HT0 := Lib.hid (HT.out.keep HN1.out)
  have c3 := HR.out.cell (i := 3) rfl
  clear c0 c1 c2 m1 HR1 HT
  by_cases h3 : l.length ≤ 400
  · have h3' : decide (400 < (l.length : Int)) = false := by simp; omega
    have h3t : decide (l.length ≤ 400) = true := by simpa using h3
    rw [h3t, Bool.and_true] at HB
    clear h3t
    go_wp2_with fail
    go_loopw [3] (fun i wr => ∃ k : Nat, k ≤ l.length ∧ i = .int .i64 k ∧ New W1 wr ∧ (0 < k → 0 ≤ prevI l 0 k) ∧ timesB 0 l = timesB (prevI l 0 k) (l.drop k)) (fun i _ => l.length - (intOf i).toNat)
    case atStart => exact ⟨0, Nat.zero_le _, rfl, New.refl _, fun h => absurd h (Nat.lt_irrefl 0), rfl⟩
    case round =>
      obtain ⟨k, hk, rfl, hn, hp, hj⟩ := hrel
      have HK := Lib.hid hj
      clear hj c3
      have c3 := (HR.out.keep hn).cell (i := 3) rfl
      have HNW := Lib.hid hn
      by_cases hlt : k < l.length
      · obtain ⟨b, off, rfl, -, hc⟩ := (HT0.out.keep hn).2 (by omega)
        have z := hc k hlt
        have HS := Lib.hid (HK.out.trans (times_prev hlt))
        have HP := Lib.hid hp
        have HPN : Hid (prevI l 0 (k + 1) = l[k]?.getD 0) := Lib.hid rfl
        have ik : (k : Int) < (l.length : Int) := by omega
        have zp : ∀ j, k = j + 1 → wr.cell? ⟨b, off + j, none⟩ = some (.int .i64 (prevI l 0 k)) := fun j e => by
          subst e
          exact hc j (by omega)
        clear hc HK hn hp
        generalize hpk : prevI l 0 k = p at *
        generalize l[k]?.getD 0 = x at *
        cases hw : wiB x 0 20000 with
        | false =>
          have HF : Hid (timesB 0 l = false) := Lib.hid (by
            have : wiB x p 20000 = false := by
              rcases Nat.eq_zero_or_pos k with h0 | h0
              · subst h0
                have : p = 0 := hpk.symm
                rw [this]; exact hw
              · have := HP.out h0
                simp only [wiB, Bool.and_eq_false_iff, decide_eq_false_iff_not] at hw ⊢
                omega
            rw [HS.out, this, Bool.false_and])
          have HW := Lib.hid hw
          clear hw hpk zp
          go_wp2_with fail
          go_quiet ((go_at_call 67; exact quiet_same (rf_withinIs HW.out _)))
          go_wp2_with fail
          go_ret
          exact ⟨ret_bool (by rw [HB.out, HF.out]), HN1.out.trans (HNW.out.trans ((New.refl _).drewN nq))⟩
        | true =>
          have HW := Lib.hid hw
          have hwx := wiB_iff.1 hw
          clear hw
          rcases k with _ | j
          · have hpe : p = 0 := hpk.symm
            subst hpe
            have hw2 : wiB x 0 20000 = true := HW.out
            rw [hw2, Bool.true_and] at HS
            clear hw2 zp hpk
            simp only [Nat.add_zero, Int.natCast_zero] at *
            go_wp2_with fail
            go_quiet ((go_at_call 67; exact quiet_same (rf_withinIs HW.out _)))
            go_wp2_with fail
            go_roundw
            case rel => exact ⟨1, by omega, by go_num, HNW.out.trans ((New.refl _).drewN nq), fun _ => by rw [HPN.out]; exact hwx.1, HS.out⟩
            case measure => simp [intOf]; omega
          · have zj := zp j rfl
            have hp0 := HP.out (by omega)
            have hwr : IntKind.i64.wrap (((j + 1 : Nat) : Int) - 1) = (j : Int) := by rw [IntWalk.i64_in _ (by omega)]; omega
            have ij : (j : Int) < (l.length : Int) := by omega
            clear zp hpk
            by_cases hxp : x < p
            · have hd : decide (x < p) = true := by simpa using hxp
              have hw2 : wiB x p 20000 = false := by simp only [wiB, Bool.and_eq_false_iff, decide_eq_false_iff_not]; omega
              rw [hw2, Bool.false_and] at HS
              clear hw2
              go_wp2_with fail
              go_quiet ((go_at_call 67; exact quiet_same (rf_withinIs HW.out _)))
              go_wp2_with fail
              go_ret
              exact ⟨ret_bool (by rw [HB.out, HS.out]), HN1.out.trans (HNW.out.trans ((New.refl _).drewN nq))⟩
            · have hd : decide (x < p) = false := by simpa using hxp
              have hw2 : wiB x p 20000 = true := wiB_iff.2 (by omega)
              rw [hw2, Bool.true_and] at HS
              clear hw2
              go_wp2_with fail
              go_quiet ((go_at_call 67; exact quiet_same (rf_withinIs HW.out _)))
              go_wp2_with fail
              go_roundw
              case rel => exact ⟨j + 1 + 1, by omega, by go_num, HNW.out.trans ((New.refl _).drewN nq), fun _ => by rw [HPN.out]; exact hwx.1, HS.out⟩
              case measure => simp [intOf]; omega
      · obtain rfl : k = l.length := by omega
        rw [List.drop_of_length_le (Nat.le_refl _)] at HK
        have HT : Hid (timesB 0 l = true) := Lib.hid HK.out
        clear HK hn
        go_wp2_with fail
        go_ret
        exact ⟨ret_bool (by rw [HB.out, HT.out]), HN1.out.trans HNW.out⟩
  · have h3' : decide (400 < (l.length : Int)) = true := by simp; omega
    have h3t : decide (l.length ≤ 400) = false := by simp; omega
    rw [h3t, Bool.and_false] at HB
    clear h3t
    go_wp2_with fail
    go_ret
    exact ⟨ret_bool HB.out.symm, HN1.out⟩
end Go.Proofs.YtodmbcoobjcooaaDoor

namespace Go.Proofs.YtodmbcoobjcooaaDoor
open Go Go.RowKit Go.Shelf
attribute [local go_sem] Oper.semAt_some
theorem rf_Beginning (w : World) : Calls Tryd.prog 95 #[] w fun e w' => e = .returned (.agg #[.int .i64 (-1), .int .i64 0]) ∧ New w w' := by
  have n1 := (New.refl w).alloc (.cells #[.int .i64 (-1), .int .i64 0] 53)
  have r1 := RowIs.new w 53 [.int .i64 (-1), .int .i64 0]
  have z0 := r1.cell (i := 0) rfl
  have z1 := r1.cell (i := 1) rfl
  go_enter Tryd.func95, Tryd.ntmps95
  go_wp2_with fail
  refine bodyPost_ret (v := .agg #[.int .i64 (-1), .int .i64 0]) (by simp [results, Tryd.results95]; go_simp) rfl ?_
  exact ⟨rfl, n1⟩
def jmpB (l : List Int) (a b : Int) : Bool := l.any fun j => decide (a < j) && decide (j ≤ b)
theorem seg_mono (l : List Int) {a b : Int} (h : a ≤ b) : segN l a ≤ segN l b := List.countP_mono_left fun j _ hj => by
  simp only [decide_eq_true_eq] at hj ⊢
  omega
theorem jmp_seg : ∀ (l : List Int) {a b : Int}, a ≤ b → (segN l a = segN l b ↔ jmpB l a b = false)
  | [], _, _, _ => by simp [segN, jmpB]
  | j :: l, a, b, h => by
    have ih := jmp_seg l h
    have hm := seg_mono l h
    have e1 : ∀ m, segN (j :: l) m = segN l m + if j ≤ m then 1 else 0 := fun m => by unfold segN; rw [List.countP_cons]; simp
    have e2 : jmpB (j :: l) a b = ((decide (a < j) && decide (j ≤ b)) || jmpB l a b) := rfl
    rw [e1, e1, e2]
    by_cases h1 : j ≤ a
    · rw [if_pos h1, if_pos (by omega)]
      have : decide (a < j) = false := by simp; omega
      rw [this, Bool.false_and, Bool.false_or, ← ih]
      omega
    · rw [if_neg h1]
      have h2 : decide (a < j) = true := by simp; omega
      by_cases h3 : j ≤ b
      · have h4 : decide (j ≤ b) = true := by simpa using h3
        rw [if_pos h3, h2, h4]
        simp
        omega
      · have h4 : decide (j ≤ b) = false := by simpa using h3
        rw [if_neg h3, h2, h4]
        simp only [Bool.and_false, Bool.false_or, ← ih]
        omega
set_option maxRecDepth 100000 in
set_option maxHeartbeats 4000000 in
theorem rf_jumped (x y : Int) (J : Option Addr) (c : Nat) (l : List Int) (a b : Int) (w : World) (hJ : IntsA w J l) :
    Calls Tryd.prog 117 #[.agg #[.int .i64 x, .int .i64 y, .slice J l.length c], .int .i64 a, .int .i64 b] w fun e w' => e = .returned (.bool (jmpB l a b)) ∧ New w w' := by
  have n1 := (New.refl w).alloc (.cells #[.int .i64 x, .int .i64 y, .slice J l.length c] 28)
  have r1 := RowIs.new w 28 [.int .i64 x, .int .i64 y, .slice J l.length c]
  have hm := hJ.1
  have HJ := Lib.hid (hJ.keep n1)
  have HN := Lib.hid n1
  have c2 := r1.cell (i := 2) rfl
  have HB : Hid (jmpB l a b = jmpB l a b) := Lib.hid rfl
  have HT : Hid (∀ k, k < l.length → a < l[k]?.getD 0 → l[k]?.getD 0 ≤ b → jmpB l a b = true) := Lib.hid fun k hk h1 h2 => List.any_eq_true.2 ⟨l[k]?.getD 0, by rw [List.getElem?_eq_getElem hk]; exact List.getElem_mem _, by simp [h1, h2]⟩
  have HF : Hid ((∀ k, k < l.length → ¬(a < l[k]?.getD 0 ∧ l[k]?.getD 0 ≤ b)) → jmpB l a b = false) := Lib.hid fun h => by
    refine List.any_eq_false.2 fun j hj => ?_
    obtain ⟨k, hk, rfl⟩ := List.mem_iff_getElem.1 hj
    have := h k hk
    rw [List.getElem?_eq_getElem hk] at this
    simpa using this
  generalize jmpB l a b = jb at *
  clear hJ n1 r1 HB
  go_enter Tryd.func117, Tryd.ntmps117
  go_wp2_with fail
  go_loop [7] (fun i => ∃ k : Nat, k ≤ l.length ∧ i = .int .i64 k ∧ ∀ j, j < k → ¬(a < l[j]?.getD 0 ∧ l[j]?.getD 0 ≤ b)) (fun i => l.length - (intOf i).toNat)
  case atStart => exact ⟨0, Nat.zero_le _, rfl, fun j h => absurd h (Nat.not_lt_zero j)⟩
  case round =>
    obtain ⟨k, hk, rfl, hall⟩ := hrel
    have HALL := Lib.hid hall
    clear hall
    by_cases hlt : k < l.length
    · obtain ⟨bb, off, rfl, -, hc⟩ := HJ.out.2 (by omega)
      have z := hc k hlt
      have HTK := Lib.hid (HT.out k hlt)
      have ik : (k : Int) < (l.length : Int) := by omega
      clear hc
      generalize htt : l[k]?.getD 0 = t at *
      have HTT := Lib.hid htt
      clear htt
      by_cases h1 : a < t
      · have h1' : decide (a < t) = true := by simpa using h1
        by_cases h2 : t ≤ b
        · have h2' : decide (t ≤ b) = true := by simpa using h2
          have HR := Lib.hid (HTK.out h1 h2)
          clear HTK
          go_wp2_with fail
          go_ret
          exact ⟨ret_bool HR.out.symm, HN.out⟩
        · have h2' : decide (t ≤ b) = false := by simpa using h2
          clear HTK
          go_wp2_with fail
          go_round
          case rel => exact ⟨k + 1, by omega, by go_num, fun j hj => by
            by_cases e : j < k
            · exact HALL.out j e
            · obtain rfl : j = k := by omega
              rw [HTT.out]
              exact fun h => h2 h.2⟩
          case measure => simp [intOf]; omega
      · have h1' : decide (a < t) = false := by simpa using h1
        clear HTK
        go_wp2_with fail
        go_round
        case rel => exact ⟨k + 1, by omega, by go_num, fun j hj => by
          by_cases e : j < k
          · exact HALL.out j e
          · obtain rfl : j = k := by omega
            rw [HTT.out]
            exact fun h => h1 h.1⟩
        case measure => simp [intOf]; omega
    · obtain rfl : k = l.length := by omega
      have HR := Lib.hid (HF.out HALL.out)
      go_wp2_with fail
      go_ret
      exact ⟨ret_bool HR.out.symm, HN.out⟩
set_option maxRecDepth 100000 in
set_option maxHeartbeats 4000000 in
theorem rf_Segment (t : Tk) (m : Int) (J : Option Addr) (c : Nat) (w : World) (hJ : IntsA w J t.jumps) :
    Calls Tryd.prog 18 #[.agg #[.int .i64 t.slip, .int .i64 t.drift, .slice J t.jumps.length c], .int .i64 m] w fun e w' => e = .returned (segV t m) ∧ New w w' := by
  have HV : Hid (∀ w', New w w' → Calls Tryd.prog 22 #[.agg #[.int .i64 t.slip, .int .i64 t.drift, .slice J t.jumps.length c]] w' fun e w'' => e = .returned (.bool (clockB t)) ∧ New w' w'') := Lib.hid (fun w' hn => rf_ValidClock t J c w' (hJ.keep hn))
  have HE : Hid (segV t m = if clockB t = true ∧ wiB m 0 20000 = true then .tuple #[.int .i64 (segN t.jumps m), .int .i64 0] else .tuple #[.int .i64 0, .int .i64 1]) := Lib.hid rfl
  generalize segV t m = sv at *
  generalize clockB t = cb at *
  generalize t.slip = a at *
  generalize t.drift = f at *
  generalize t.jumps = l at *
  have HN := Lib.hid ((New.refl w).alloc (.cells #[.int .i64 a, .int .i64 f, .slice J l.length c] 28))
  have HR := RowIs.new w 28 [.int .i64 a, .int .i64 f, .slice J l.length c]
  have hm := hJ.1
  have HJ0 := Lib.hid hJ
  have c0 := HR.cell (i := 0) rfl
  have c1 := HR.cell (i := 1) rfl
  have c2 := HR.cell (i := 2) rfl
  clear hJ
  go_enter Tryd.func18, Tryd.ntmps18
  go_wp2_with fail
  refine (HV.out _ HN.out).mono ?_
  rintro e w1 ⟨rfl, h1⟩
  have HN2 := Lib.hid (HN.out.trans h1)
  have HR2 := HR.keep h1
  have HJ := Lib.hid (HJ0.out.keep HN2.out)
  clear c0 c1 c2 h1 HR HJ0 HV
  have c2 := HR2.cell (i := 2) rfl
  clear HR2
  cases cb with
  | false =>
    rw [if_neg (by simp)] at HE
    go_wp2_with fail
    go_ret2
    exact ⟨ret_val HE.out.symm, HN2.out⟩
  | true =>
    cases hw : wiB m 0 20000 with
    | false =>
      rw [hw, if_neg (by simp)] at HE
      have HW := Lib.hid hw
      clear hw
      go_wp2_with (go_at_call 67; refine (rf_withinIs HW.out _).mono ?_; rintro e w' ⟨rfl, rfl⟩)
      go_ret2
      exact ⟨ret_val HE.out.symm, HN2.out⟩
    | true =>
      rw [hw, if_pos (by simp)] at HE
      have HW := Lib.hid hw
      clear hw
      go_wp2_with (go_at_call 67; refine (rf_withinIs HW.out _).mono ?_; rintro e w' ⟨rfl, rfl⟩)
      go_loop [6, 7] (fun n i => ∃ k : Nat, k ≤ l.length ∧ i = .int .i64 k ∧ n = .int .i64 (segN (l.take k) m)) (fun _ i => l.length - (intOf i).toNat)
      case atStart => exact ⟨0, Nat.zero_le _, rfl, rfl⟩
      case round =>
        obtain ⟨k, hk, rfl, rfl⟩ := hrel
        have hle := seg_le (l.take k) m
        have hl : (l.take k).length ≤ k := List.length_take_le _ _
        by_cases hlt : k < l.length
        · obtain ⟨b, off, rfl, -, hc⟩ := HJ.out.2 (by omega)
          have z := hc k hlt
          have HS := Lib.hid (seg_snoc hlt m)
          have ik : (k : Int) < (l.length : Int) := by omega
          clear hc
          generalize l[k]?.getD 0 = x at *
          by_cases hx : x ≤ m
          · rw [if_pos hx] at HS
            have hx' : decide (x ≤ m) = true := by simpa using hx
            go_wp2_with fail
            go_round
            case rel => exact ⟨k + 1, by omega, by go_num, by rw [HS.out]; go_num⟩
            case measure => simp [intOf]; omega
          · rw [if_neg hx] at HS
            have hx' : decide (x ≤ m) = false := by simpa using hx
            go_wp2_with fail
            go_round
            case rel => exact ⟨k + 1, by omega, by go_num, by rw [HS.out]; rfl⟩
            case measure => simp [intOf]; omega
        · have h2 : l.take k = l := List.take_of_length_le (by omega)
          rw [h2]
          clear h2 hle hl
          go_wp2_with fail
          go_ret2
          exact ⟨ret_val HE.out.symm, HN2.out⟩
end Go.Proofs.YtodmbcoobjcooaaDoor

namespace Go.Proofs.YtodmbcoobjcooaaDoor
open Go Go.RowKit Go.Shelf
set_option maxHeartbeats 4000000 in
theorem rf_Has (s : Sy) (r : Rf) (A D : Option Addr) (c m d : Nat) (win : Int) (w : World) (hA : TksA w A s.tracks) :
    Calls Tryd.prog 72 #[.agg #[.slice A s.tracks.length c, .slice D m d, .int .i64 win], .agg #[.int .i64 r.log, .int .i64 r.line]] w fun e w' => e = .returned (.bool (lineB s r)) ∧ New w w' := by
  have HB : Hid (lineB s r = (wiB r.log 0 ((s.tracks.length : Int) - 1) && wiB r.line 0 (((tkAt s r.log.toNat).times.length : Int) - 1))) := Lib.hid rfl
  generalize lineB s r = lb at *
  obtain ⟨lg, ln⟩ := r
  unfold tkAt at HB
  obtain ⟨l, ties, win2⟩ := s
  dsimp only at HB hA ⊢
  have hn := ((New.refl w).alloc (.cells #[.slice A l.length c, .slice D m d, .int .i64 win] 25)).alloc (.cells #[.int .i64 lg, .int .i64 ln] 53)
  have r1 := (RowIs.new w 25 [.slice A l.length c, .slice D m d, .int .i64 win]).keep ((New.refl _).alloc (.cells #[.int .i64 lg, .int .i64 ln] 53))
  have r2 := RowIs.new (w.alloc (.cells #[.slice A l.length c, .slice D m d, .int .i64 win] 25)) 53 [.int .i64 lg, .int .i64 ln]
  have hz : (w.alloc (.cells #[.slice A l.length c, .slice D m d, .int .i64 win] 25)).heap.size = w.heap.size + 1 := by simp
  rw [hz] at r2
  clear hz
  have c0 := r1.cell (i := 0) rfl
  have e0 := r2.cell (i := 0) rfl
  have e1 := r2.cell (i := 1) rfl
  have hm := hA.1
  have hw1 : IntKind.i64.wrap ((l.length : Int) - 1) = (l.length : Int) - 1 := IntWalk.i64_in _ (by omega)
  have HA := Lib.hid (hA.keep hn)
  have HN := Lib.hid hn
  clear hA r1 r2
  cases h1 : wiB lg 0 ((l.length : Int) - 1) with
  | false =>
    rw [h1, Bool.false_and] at HB
    have H1 := Lib.hid h1
    clear h1
    go_enter Tryd.func72, Tryd.ntmps72
    go_wp2_with fail
    go_quiet ((go_at_call 67; exact quiet_same (rf_withinIs H1.out _)))
    go_wp2_with fail
    go_ret
    exact ⟨ret_bool HB.out.symm, HN.out.drewN _⟩
  | true =>
    rw [h1, Bool.true_and] at HB
    have hq := wiB_iff.1 h1
    obtain ⟨i, rfl⟩ := Int.eq_ofNat_of_zero_le hq.1
    rw [Int.toNat_natCast] at HB
    have H1 := Lib.hid h1
    clear h1
    have hi : i < l.length := by omega
    obtain ⟨b, off, rfl, -, hc⟩ := HA.out.2 (by omega)
    obtain ⟨JA, jc, TA, tc, -, -, -, z, -, hT⟩ := hc i hi
    have hT1 := hT.1
    clear hc hT
    generalize (l[i]?.getD default).times = ts at *
    have hw2 : IntKind.i64.wrap ((ts.length : Int) - 1) = (ts.length : Int) - 1 := IntWalk.i64_in _ (by omega)
    have i1 : (i : Int) < (l.length : Int) := by omega
    have i2 : (0 : Int) ≤ (i : Int) := by omega
    cases h3 : wiB ln 0 ((ts.length : Int) - 1) with
    | false =>
      rw [h3] at HB
      have H3 := Lib.hid h3
      clear h3 hq
      go_enter Tryd.func72, Tryd.ntmps72
      go_wp2_with fail
      go_quiet ((first | (go_at_call 67; with_reducible exact quiet_same (rf_withinIs H1.out _)) | (go_at_call 67; with_reducible exact quiet_same (rf_withinIs H3.out _))))
      go_wp2_with fail
      go_ret
      exact ⟨ret_bool HB.out.symm, HN.out.drewN _⟩
    | true =>
      rw [h3] at HB
      have H3 := Lib.hid h3
      clear h3 hq
      go_enter Tryd.func72, Tryd.ntmps72
      go_wp2_with fail
      go_quiet ((first | (go_at_call 67; with_reducible exact quiet_same (rf_withinIs H1.out _)) | (go_at_call 67; with_reducible exact quiet_same (rf_withinIs H3.out _))))
      go_wp2_with fail
      go_ret
      exact ⟨ret_bool HB.out.symm, HN.out.drewN _⟩
def badT (s : Sy) (t : Ti) : Bool := tieNone s t || tieArg t
theorem tiesE_bad (s : Sy) (l : List Ti) : tiesE s l ≠ 0 ↔ l.any (badT s) = true := by
  unfold tiesE badT
  constructor
  · intro h
    by_cases h1 : l.any (tieNone s) = true
    · obtain ⟨t, ht, h2⟩ := List.any_eq_true.1 h1
      exact List.any_eq_true.2 ⟨t, ht, by rw [h2]; rfl⟩
    · rw [if_neg h1] at h
      by_cases h2 : l.any tieArg = true
      · obtain ⟨t, ht, h3⟩ := List.any_eq_true.1 h2
        exact List.any_eq_true.2 ⟨t, ht, by rw [h3, Bool.or_true]⟩
      · rw [if_neg h2] at h; exact absurd rfl h
  · intro h
    obtain ⟨t, ht, h2⟩ := List.any_eq_true.1 h
    by_cases h1 : l.any (tieNone s) = true
    · rw [if_pos h1]; decide
    · rw [if_neg h1]
      have h3 : tieNone s t = false := by
        cases h4 : tieNone s t with
        | false => rfl
        | true => exact absurd (List.any_eq_true.2 ⟨t, ht, h4⟩) h1
      rw [h3, Bool.false_or] at h2
      rw [if_pos (List.any_eq_true.2 ⟨t, ht, h2⟩)]
      decide
theorem checkE_track {s : Sy} (h1 : ¬(64 < s.tracks.length ∨ 400 < s.ties.length)) {k : Nat} (hk : k < s.tracks.length) (h : trackB (s.tracks[k]?.getD default) = false) : checkE s = 30 := by
  unfold checkE
  rw [if_neg h1, if_pos]
  rw [getD_get hk] at h
  have : s.tracks.all trackB = false := by
    rw [List.all_eq_false]
    exact ⟨_, List.getElem_mem hk, by rw [h]; simp⟩
  rw [this]; rfl
theorem checkE_tie {s : Sy} (h1 : ¬(64 < s.tracks.length ∨ 400 < s.ties.length)) {k : Nat} (hk : k < s.ties.length) (h : badT s (s.ties[k]?.getD default) = true) : checkE s = 30 := by
  unfold checkE
  rw [if_neg h1]
  split
  · rfl
  · rw [getD_get hk] at h
    rw [if_pos ((tiesE_bad s s.ties).2 (List.any_eq_true.2 ⟨_, List.getElem_mem hk, h⟩))]
theorem checkE_rest {s : Sy} (h1 : ¬(64 < s.tracks.length ∨ 400 < s.ties.length)) (h2 : ∀ j, j < s.tracks.length → trackB (s.tracks[j]?.getD default) = true) (h3 : ∀ j, j < s.ties.length → badT s (s.ties[j]?.getD default) = false) : checkE s = if wiB s.window 0 120 = true then 0 else 30 := by
  have a : s.tracks.all trackB = true := by
    rw [List.all_eq_true]
    intro t ht
    obtain ⟨j, hj, rfl⟩ := List.mem_iff_getElem.1 ht
    have := h2 j hj
    rwa [getD_get hj] at this
  have b : ¬tiesE s s.ties ≠ 0 := fun h => by
    obtain ⟨t, ht, h4⟩ := List.any_eq_true.1 ((tiesE_bad s s.ties).1 h)
    obtain ⟨j, hj, rfl⟩ := List.mem_iff_getElem.1 ht
    have := h3 j hj
    rw [getD_get hj, h4] at this
    cases this
  unfold checkE
  rw [if_neg h1, a, if_neg (by decide), if_neg b]
  cases wiB s.window 0 120 <;> rfl
set_option maxRecDepth 100000 in
set_option maxHeartbeats 4000000 in
theorem rf_Check (s : Sy) (A D : Option Addr) (c d : Nat) (w : World) (hS : SysM w A D s) :
    Calls Tryd.prog 26 #[.agg #[.slice A s.tracks.length c, .slice D s.ties.length d, .int .i64 s.window]] w fun e w' => e = .returned (.int .i64 (checkE s)) ∧ New w w' := by
  have n1 := (New.refl w).alloc (.cells #[.slice A s.tracks.length c, .slice D s.ties.length d, .int .i64 s.window] 25)
  have r1 := RowIs.new w 25 [.slice A s.tracks.length c, .slice D s.ties.length d, .int .i64 s.window]
  have hm := hS.1.1
  have hm2 := hS.2.1
  have HS := Lib.hid (hS.keep n1)
  have HN := Lib.hid n1
  have HR := Lib.hid r1
  have c0 := r1.cell (i := 0) rfl
  have c1 := r1.cell (i := 1) rfl
  clear hS n1 r1
  by_cases h1 : 64 < s.tracks.length
  · have h1' : decide (64 < (s.tracks.length : Int)) = true := by simp; omega
    have he : checkE s = 2 := by unfold checkE; rw [if_pos (.inl h1)]
    rw [he]
    go_enter Tryd.func26, Tryd.ntmps26
    go_wp2_with fail
    go_ret
    exact ⟨rfl, HN.out⟩
  have h1' : decide (64 < (s.tracks.length : Int)) = false := by simp; omega
  by_cases h2 : 400 < s.ties.length
  · have h2' : decide (400 < (s.ties.length : Int)) = true := by simp; omega
    have he : checkE s = 2 := by unfold checkE; rw [if_pos (.inr h2)]
    rw [he]
    go_enter Tryd.func26, Tryd.ntmps26
    go_wp2_with fail
    go_ret
    exact ⟨rfl, HN.out⟩
  have h2' : decide (400 < (s.ties.length : Int)) = false := by simp; omega
  have HL : Hid (¬(64 < s.tracks.length ∨ 400 < s.ties.length)) := Lib.hid (by omega)
  go_enter Tryd.func26, Tryd.ntmps26
  go_wp2_with fail
  generalize hB : w.heap.size = B at *
  generalize hW1 : w.alloc (.cells #[.slice A s.tracks.length c, .slice D s.ties.length d, .int .i64 s.window] 25) = W1 at *
  clear hW1 h1' h2'
  go_loopw [3] (fun i wr => ∃ k : Nat, k ≤ s.tracks.length ∧ i = .int .i64 k ∧ New W1 wr ∧ ∀ j, j < k → trackB (s.tracks[j]?.getD default) = true) (fun i _ => s.tracks.length - (intOf i).toNat)
  case atStart => exact ⟨0, Nat.zero_le _, rfl, New.refl _, fun j h => absurd h (Nat.not_lt_zero j)⟩
  case round =>
    obtain ⟨k, hk, rfl, hn, hall⟩ := hrel
    have HNW := Lib.hid hn
    have HALL := Lib.hid hall
    clear c0 c1 hall
    have c0 := (HR.out.keep hn).cell (i := 0) rfl
    by_cases hlt : k < s.tracks.length
    · obtain ⟨b, off, hA, -, hc⟩ := (HS.out.keep hn).1.2 (by omega)
      subst hA
      obtain ⟨JA, jc, TA, tc, z0, z1, z2, z3, hJ, hT⟩ := hc k hlt
      have ik : (k : Int) < (s.tracks.length : Int) := by omega
      have HVT := Lib.hid (rf_ValidTrack (s.tracks[k]?.getD default) JA TA jc tc wr ⟨hJ, hT⟩)
      have HCE : Hid (trackB (s.tracks[k]?.getD default) = false → checkE s = 30) := Lib.hid (checkE_track HL.out hlt)
      clear hc hJ hT hn
      generalize htt : s.tracks[k]?.getD default = t at *
      have HTT := Lib.hid htt
      clear htt
      cases hb : trackB t with
      | false =>
        have HB := Lib.hid (HCE.out hb)
        rw [hb] at HVT
        clear HCE hb
        go_wp2_with fail
        refine HVT.out.mono ?_
        rintro e w2 ⟨rfl, m2⟩
        go_wp2_with fail
        go_ret
        exact ⟨by rw [HB.out]; rfl, HN.out.trans (HNW.out.trans m2)⟩
      | true =>
        have HB := Lib.hid hb
        rw [hb] at HVT
        clear HCE hb
        go_wp2_with fail
        refine HVT.out.mono ?_
        rintro e w2 ⟨rfl, m2⟩
        go_wp2_with fail
        go_roundw
        case rel => exact ⟨k + 1, by omega, by go_num, HNW.out.trans m2, fun j hj => by
          by_cases e : j < k
          · exact HALL.out j e
          · obtain rfl : j = k := by omega
            rw [HTT.out]
            exact HB.out⟩
        case measure => simp [intOf]; omega
    · obtain rfl : k = s.tracks.length := by omega
      clear hn
      go_wp2_with fail
      clear c0
      obtain ⟨wq, hwq⟩ : ∃ wq, wq = wr := ⟨_, rfl⟩
      go_loopw [4] (fun i wr2 => ∃ k : Nat, k ≤ s.ties.length ∧ i = .int .i64 k ∧ New W1 wr2 ∧ ∀ j, j < k → badT s (s.ties[j]?.getD default) = false) (fun i _ => s.ties.length - (intOf i).toNat)
      case atStart => exact ⟨0, Nat.zero_le _, rfl, HNW.out, fun j h => absurd h (Nat.not_lt_zero j)⟩
      case round =>
        obtain ⟨k2, hk2, rfl, hn2, hall2⟩ := hrel
        have HNW2 := Lib.hid hn2
        have HALL2 := Lib.hid hall2
        have c0 := (HR.out.keep hn2).cell (i := 0) rfl
        have c1 := (HR.out.keep hn2).cell (i := 1) rfl
        have c2 := (HR.out.keep hn2).cell (i := 2) rfl
        have hBl : B < wr.heap.size := (HR.out.keep hn2).lt
        by_cases hlt2 : k2 < s.ties.length
        · obtain ⟨b, off, hD, -, hc⟩ := (HS.out.keep hn2).2.2 (by omega)
          subst hD
          have hcc := hc k2 hlt2
          have ik2 : (k2 : Int) < (s.ties.length : Int) := by omega
          have HCE : Hid (badT s (s.ties[k2]?.getD default) = true → checkE s = 30) := Lib.hid (checkE_tie HL.out hlt2)
          have HHS : Hid (∀ r w', New W1 w' → Calls Tryd.prog 72 #[.agg #[.slice A s.tracks.length c, .slice (some ⟨b, off, none⟩) s.ties.length d, .int .i64 s.window], .agg #[.int .i64 r.log, .int .i64 r.line]] w' fun e w'' => e = .returned (.bool (lineB s r)) ∧ New w' w'') := Lib.hid fun r w' h => rf_Has s r A (some ⟨b, off, none⟩) c s.ties.length d s.window w' (HS.out.keep h).1
          clear hc hn2 hall2
          generalize htt : s.ties[k2]?.getD default = t at *
          have HTT := Lib.hid htt
          clear htt
          obtain ⟨⟨al, an⟩, ⟨bl, bn⟩⟩ := t
          obtain ⟨z0, z1, z2, z3⟩ := hcc
          dsimp only at z0 z1 z2 z3
          have m1 := (New.refl wr).alloc (.cells #[.int .i64 al, .int .i64 an, .int .i64 bl, .int .i64 bn] 79)
          have HRT := Lib.hid (RowIs.new wr 79 [.int .i64 al, .int .i64 an, .int .i64 bl, .int .i64 bn])
          have HM1 := Lib.hid m1
          have HBD : Hid (badT s ⟨⟨al, an⟩, ⟨bl, bn⟩⟩ = ((!lineB s ⟨al, an⟩ || !lineB s ⟨bl, bn⟩) || decide (al = bl))) := Lib.hid rfl
          have HA := Lib.hid (HHS.out ⟨al, an⟩ _ (HNW2.out.trans m1))
          have HBB : Hid (∀ w', New W1 w' → _) := Lib.hid (HHS.out ⟨bl, bn⟩)
          clear HHS m1
          cases h3 : lineB s ⟨al, an⟩ with
          | false =>
            rw [h3] at HA HBD
            have HE := Lib.hid (HCE.out (by rw [HBD.out]; rfl))
            clear h3 HCE HBD
            go_wp2_with fail
            refine HA.out.mono ?_
            rintro e w2 ⟨rfl, m2⟩
            go_wp2_with fail
            go_ret
            exact ⟨by rw [HE.out]; rfl, HN.out.trans (HNW2.out.trans (HM1.out.trans m2))⟩
          | true =>
            rw [h3] at HA HBD
            clear h3
            cases h4 : lineB s ⟨bl, bn⟩ with
            | false =>
              rw [h4] at HBB HBD
              have HE := Lib.hid (HCE.out (by rw [HBD.out]; rfl))
              clear h4 HCE HBD
              go_wp2_with fail
              refine HA.out.mono ?_
              rintro e w2 ⟨rfl, m2⟩
              have c0 := (HR.out.keep (HNW2.out.trans (HM1.out.trans m2))).cell (i := 0) rfl
              have c1 := (HR.out.keep (HNW2.out.trans (HM1.out.trans m2))).cell (i := 1) rfl
              have c2 := (HR.out.keep (HNW2.out.trans (HM1.out.trans m2))).cell (i := 2) rfl
              have t2 := (HRT.out.keep m2).cell (i := 2) rfl
              have t3 := (HRT.out.keep m2).cell (i := 3) rfl
              go_wp2_with fail
              refine (HBB.out _ (HNW2.out.trans (HM1.out.trans m2))).mono ?_
              rintro e w3 ⟨rfl, m3⟩
              go_wp2_with fail
              go_ret
              exact ⟨by rw [HE.out]; rfl, HN.out.trans (HNW2.out.trans (HM1.out.trans (m2.trans m3)))⟩
            | true =>
              rw [h4] at HBB HBD
              clear h4
              go_wp2_with fail
              refine HA.out.mono ?_
              rintro e w2 ⟨rfl, m2⟩
              have c0 := (HR.out.keep (HNW2.out.trans (HM1.out.trans m2))).cell (i := 0) rfl
              have c1 := (HR.out.keep (HNW2.out.trans (HM1.out.trans m2))).cell (i := 1) rfl
              have c2 := (HR.out.keep (HNW2.out.trans (HM1.out.trans m2))).cell (i := 2) rfl
              have t2 := (HRT.out.keep m2).cell (i := 2) rfl
              have t3 := (HRT.out.keep m2).cell (i := 3) rfl
              go_wp2_with fail
              refine (HBB.out _ (HNW2.out.trans (HM1.out.trans m2))).mono ?_
              rintro e w3 ⟨rfl, m3⟩
              have u0 := (HRT.out.keep (m2.trans m3)).cell (i := 0) rfl
              have u2 := (HRT.out.keep (m2.trans m3)).cell (i := 2) rfl
              by_cases h5 : al = bl
              · have hd : decide (al = bl) = true := by simpa using h5
                have HE := Lib.hid (HCE.out (by rw [HBD.out, hd]; rfl))
                have hbq : (al == bl) = true := by simpa using h5
                clear HCE HBD h5
                go_wp2_with fail
                go_ret
                exact ⟨by rw [HE.out]; rfl, HN.out.trans (HNW2.out.trans (HM1.out.trans (m2.trans m3)))⟩
              · have hd : decide (al = bl) = false := by simpa using h5
                have HE : Hid (badT s ⟨⟨al, an⟩, ⟨bl, bn⟩⟩ = false) := Lib.hid (by rw [HBD.out, hd]; rfl)
                have hbq : (al == bl) = false := by simpa using h5
                clear HCE HBD h5
                go_wp2_with fail
                go_roundw
                case rel => exact ⟨k2 + 1, by omega, by go_num, HNW2.out.trans (HM1.out.trans (m2.trans m3)), fun j hj => by
                  by_cases e : j < k2
                  · exact HALL2.out j e
                  · obtain rfl : j = k2 := by omega
                    rw [HTT.out]
                    exact HE.out⟩
                case measure => simp [intOf]; omega
        · obtain rfl : k2 = s.ties.length := by omega
          have HCR := Lib.hid (checkE_rest HL.out HALL.out HALL2.out)
          clear hn2 hall2
          cases h6 : wiB s.window 0 120 with
          | false =>
            rw [h6] at HCR
            have H6 := Lib.hid h6
            clear h6
            go_wp2_with fail
            refine (rf_withinIs H6.out _).mono ?_
            rintro e w' ⟨rfl, rfl⟩
            go_wp2_with fail
            go_ret
            exact ⟨by rw [HCR.out]; rfl, HN.out.trans HNW2.out⟩
          | true =>
            rw [h6] at HCR
            have H6 := Lib.hid h6
            clear h6
            go_wp2_with fail
            refine (rf_withinIs H6.out _).mono ?_
            rintro e w' ⟨rfl, rfl⟩
            go_wp2_with fail
            go_ret
            exact ⟨by rw [HCR.out]; rfl, HN.out.trans HNW2.out⟩
end Go.Proofs.YtodmbcoobjcooaaDoor
