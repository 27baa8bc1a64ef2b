/-
  within, segment, ValidClock, ValidTrack, isLine of the program. Condition: the slices lie in memory.
-/
import Derived.Test.YtlhdhfhfdkldjaaDoorCkBase
namespace Go.Proofs.YtlhdhfhfdkldjaaDoor
open Go Go.RowKit
theorem ck_within (n lo hi : Int) (w : World) : Calls Tryd.prog 65 #[.int .i64 n, .int .i64 lo, .int .i64 hi] w fun e w' => e = .returned (.bool (wiB n lo hi)) ∧ w = w' := by
  by_cases h1 : lo ≤ n
  · go_enter Tryd.func65, Tryd.ntmps65
    go_wp2_with fail
    go_ret
    exact ⟨ret_bool (by simp [wiB, h1]), rfl⟩
  · have h1' : decide (lo ≤ n) = false := by simpa using h1
    go_enter Tryd.func65, Tryd.ntmps65
    go_wp2_with fail
    go_ret
    exact ⟨ret_bool (by simp only [wiB, h1', Bool.false_and]), rfl⟩
theorem ck_withinIs {n lo hi : Int} {x : Bool} (h : wiB n lo hi = x) (w : World) : Calls Tryd.prog 65 #[.int .i64 n, .int .i64 lo, .int .i64 hi] w fun e w' => e = .returned (.bool x) ∧ w = w' := h ▸ ck_within n lo hi w
theorem seg_snoc {l : List Int} {k : Nat} (h : k < l.length) (m : Int) : segN (l.take (k + 1)) m = segN (l.take k) m + if l[k]?.getD 0 ≤ m then 1 else 0 := by
  have e : l.take (k + 1) = l.take k ++ [l[k]?.getD 0] := take_at h
  rw [e, segN, List.countP_append]
  simp [segN, List.countP_cons]
theorem seg_le (l : List Int) (m : Int) : segN l m ≤ l.length := List.countP_le_length
set_option maxHeartbeats 800000 in
theorem ck_segment (a d m : Int) (J : Option Addr) (c : Nat) (l : List Int) (w : World) (hJ : IntsA w J l) :
    Calls Tryd.prog 66 #[.agg #[.int .i64 a, .int .i64 d, .slice J l.length c], .int .i64 m] w fun e w' => e = .returned (.int .i64 (segN l m)) ∧ New w w' := by
  have hn := (New.refl w).alloc (.cells #[.int .i64 a, .int .i64 d, .slice J l.length c] 28)
  have hm := hJ.1
  have HJ := Lib.hid (hJ.keep hn)
  have HN := Lib.hid hn
  clear hJ hn
  go_enter Tryd.func66, Tryd.ntmps66
  go_wp2_with fail
  go_loop [5, 11] (fun n i => ∃ k : Nat, k ≤ l.length ∧ i = .int .i64 k ∧ n = .int .i64 (segN (l.take k) m)) (fun _ i => l.length - (intOf i).toNat)
  case atStart => exact ⟨0, Nat.zero_le _, rfl, rfl⟩
  case round =>
    obtain ⟨k, hk, rfl, rfl⟩ := hrel
    have hle := seg_le (l.take k) m
    have hl : (l.take k).length ≤ k := List.length_take_le _ _
    by_cases hlt : k < l.length
    · obtain ⟨b, off, rfl, -, hc⟩ := HJ.out.2 (by omega)
      have z := hc k hlt
      have HS := Lib.hid (seg_snoc hlt m)
      clear hc
      generalize l[k]?.getD 0 = x at *
      by_cases hx : x ≤ m
      · rw [if_pos hx] at HS
        go_wp2_with fail
        go_round
        case rel => exact ⟨k + 1, by omega, by go_num, by rw [HS.out]; go_num⟩
        case measure => simp [intOf]; omega
      · rw [if_neg hx] at HS
        have hx' : decide (x ≤ m) = false := by simpa using hx
        go_wp2_with fail
        go_round
        case rel => exact ⟨k + 1, by omega, by go_num, by rw [HS.out]; rfl⟩
        case measure => simp [intOf]; omega
    · have h2 : l.take k = l := List.take_of_length_le (by omega)
      rw [h2]
      clear h2 hle hl
      go_wp2_with fail
      go_ret
      exact ⟨rfl, HN.out⟩
theorem jumps_drop {l : List Int} {k : Nat} (h : k < l.length) (last : Int) : jumpsB last (l.drop k) = (wiB (l[k]?.getD 0) (last + 1) 20000 && jumpsB (l[k]?.getD 0) (l.drop (k + 1))) := by rw [drop_int h, jumpsB]
theorem times_drop {l : List Int} {k : Nat} (h : k < l.length) (last : Int) : timesB last (l.drop k) = (wiB (l[k]?.getD 0) last 20000 && timesB (l[k]?.getD 0) (l.drop (k + 1))) := by rw [drop_int h, timesB]
set_option maxHeartbeats 1000000 in
theorem ck_ValidClock (t : Tk) (J : Option Addr) (c : Nat) (w : World) (hJ : IntsA w J t.jumps) :
    Calls Tryd.prog 21 #[.agg #[.int .i64 t.slip, .int .i64 t.drift, .slice J t.jumps.length c]] w fun e w' => e = .returned (.bool (clockB t)) ∧ New w w' := by
  obtain ⟨a, d, l, times⟩ := t
  dsimp only at hJ ⊢
  have hn := (New.refl w).alloc (.cells #[.int .i64 a, .int .i64 d, .slice J l.length c] 28)
  have hr := RowIs.new w 28 [.int .i64 a, .int .i64 d, .slice J l.length c]
  have hm := hJ.1
  have HJ := Lib.hid (hJ.keep hn)
  have HN := Lib.hid hn
  have HR := Lib.hid hr
  have HB : Hid (clockB ⟨a, d, l, times⟩ = (jumpsB (-1) l && (wiB a 0 1440 && (wiB d 0 100 && decide (l.length ≤ 16))))) := Lib.hid rfl
  clear hJ hn hr
  go_enter Tryd.func21, Tryd.ntmps21
  go_wp2_with fail
  go_loop [3, 9] (fun last i => ∃ (k : Nat) (p : Int), k ≤ l.length ∧ i = .int .i64 k ∧ last = .int .i64 p ∧ -1 ≤ p ∧ p ≤ 20000 ∧ jumpsB (-1) l = jumpsB p (l.drop k)) (fun _ i => l.length - (intOf i).toNat)
  case atStart => exact ⟨0, -1, Nat.zero_le _, rfl, rfl, by omega, by omega, rfl⟩
  case round =>
    obtain ⟨k, p, hk, rfl, rfl, hp, hp2, hj⟩ := hrel
    have HK := Lib.hid hj
    clear hj
    by_cases hlt : k < l.length
    · obtain ⟨b, off, rfl, -, hc⟩ := HJ.out.2 (by omega)
      have z := hc k hlt
      have HS := Lib.hid (HK.out.trans (jumps_drop hlt p))
      clear hc HK
      generalize l[k]?.getD 0 = x at *
      cases hw : wiB x (p + 1) 20000 with
      | true =>
        rw [hw, Bool.true_and] at HS
        have hq := wiB_iff.1 hw
        have HW := Lib.hid hw
        clear hw
        go_wp2_with (go_at_call 65; refine (ck_withinIs HW.out _).mono ?_; rintro e w' ⟨rfl, rfl⟩)
        go_round
        case rel => exact ⟨k + 1, _, by omega, by go_num, rfl, by omega, hq.2, HS.out⟩
        case measure => simp [intOf]; omega
      | false =>
        rw [hw, Bool.false_and] at HS
        have HW := Lib.hid hw
        clear hw
        go_wp2_with (go_at_call 65; refine (ck_withinIs HW.out _).mono ?_; rintro e w' ⟨rfl, rfl⟩)
        go_ret
        exact ⟨ret_bool (by rw [HB.out, HS.out]; rfl), HN.out⟩
    · have h2 : l.drop k = [] := List.drop_of_length_le (by omega)
      rw [h2] at HK
      have HJT : Hid (jumpsB (-1) l = true) := Lib.hid HK.out
      clear h2 HK
      rw [HJT.out, Bool.true_and] at HB
      have c0 := HR.out.cell (i := 0) rfl
      have c1 := HR.out.cell (i := 1) rfl
      have c2 := HR.out.cell (i := 2) rfl
      cases h1 : wiB a 0 1440 with
      | false =>
        rw [h1, Bool.false_and] at HB
        have H1 := Lib.hid h1
        clear h1
        go_wp2_with (go_at_call 65; refine (ck_withinIs H1.out _).mono ?_; rintro e w' ⟨rfl, rfl⟩)
        go_ret
        exact ⟨ret_bool HB.out.symm, HN.out⟩
      | true =>
        rw [h1, Bool.true_and] at HB
        have H1 := Lib.hid h1
        clear h1
        cases h3 : wiB d 0 100 with
        | false =>
          rw [h3, Bool.false_and] at HB
          have H3 := Lib.hid h3
          clear h3
          go_wp2_with (first | (go_at_call 65; (with_reducible refine (ck_withinIs H1.out _).mono ?_); rintro e w' ⟨rfl, rfl⟩) | (go_at_call 65; (with_reducible refine (ck_withinIs H3.out _).mono ?_); rintro e w' ⟨rfl, rfl⟩))
          go_ret
          exact ⟨ret_bool HB.out.symm, HN.out⟩
        | true =>
          rw [h3, Bool.true_and] at HB
          have H3 := Lib.hid h3
          clear h3
          go_wp2_with (first | (go_at_call 65; (with_reducible refine (ck_withinIs H1.out _).mono ?_); rintro e w' ⟨rfl, rfl⟩) | (go_at_call 65; (with_reducible refine (ck_withinIs H3.out _).mono ?_); rintro e w' ⟨rfl, rfl⟩))
          go_ret
          exact ⟨ret_bool (by rw [HB.out]; simp; omega), HN.out⟩
set_option maxHeartbeats 1000000 in
theorem ck_ValidTrack (t : Tk) (J T : Option Addr) (c d : Nat) (w : World) (hJ : TkM w J T t) :
    Calls Tryd.prog 23 #[.agg #[.int .i64 t.slip, .int .i64 t.drift, .slice J t.jumps.length c, .slice T t.times.length d]] w fun e w' => e = .returned (.bool (trackB t)) ∧ New w w' := by
  have HV : Hid (∀ w', New w w' → Calls Tryd.prog 21 #[.agg #[.int .i64 t.slip, .int .i64 t.drift, .slice J t.jumps.length c]] w' fun e w'' => e = .returned (.bool (clockB t)) ∧ New w' w'') := Lib.hid (fun w' hn => ck_ValidClock t J c w' (hJ.1.keep hn))
  have HB : Hid (trackB t = (timesB 0 t.times && (clockB t && decide (t.times.length ≤ 400)))) := Lib.hid rfl
  have hT := hJ.2
  clear hJ
  generalize clockB t = cb at *
  generalize trackB t = tb at *
  obtain ⟨a, f, js, l⟩ := t
  dsimp only at HV HB hT ⊢
  have hn := (New.refl w).alloc (.cells #[.int .i64 a, .int .i64 f, .slice J js.length c, .slice T l.length d] 30)
  have hr := RowIs.new w 30 [.int .i64 a, .int .i64 f, .slice J js.length c, .slice T l.length d]
  have hm := hT.1
  have HT := Lib.hid (hT.keep hn)
  have HN := Lib.hid hn
  have HR := Lib.hid hr
  clear hT hn hr
  go_enter Tryd.func23, Tryd.ntmps23
  go_wp2_with fail
  go_loop [3, 9] (fun last i => ∃ (k : Nat) (p : Int), k ≤ l.length ∧ i = .int .i64 k ∧ last = .int .i64 p ∧ 0 ≤ p ∧ p ≤ 20000 ∧ timesB 0 l = timesB p (l.drop k)) (fun _ i => l.length - (intOf i).toNat)
  case atStart => exact ⟨0, 0, Nat.zero_le _, rfl, rfl, by omega, by omega, rfl⟩
  case round =>
    obtain ⟨k, p, hk, rfl, rfl, hp, hp2, hj⟩ := hrel
    have HK := Lib.hid hj
    clear hj
    by_cases hlt : k < l.length
    · obtain ⟨b, off, rfl, -, hc⟩ := HT.out.2 (by omega)
      have z := hc k hlt
      have HS := Lib.hid (HK.out.trans (times_drop hlt p))
      clear hc HK
      generalize l[k]?.getD 0 = x at *
      cases hw : wiB x p 20000 with
      | true =>
        rw [hw, Bool.true_and] at HS
        have hq := wiB_iff.1 hw
        have HW := Lib.hid hw
        clear hw
        go_wp2_with (go_at_call 65; refine (ck_withinIs HW.out _).mono ?_; rintro e w' ⟨rfl, rfl⟩)
        go_round
        case rel => exact ⟨k + 1, _, by omega, by go_num, rfl, by omega, hq.2, HS.out⟩
        case measure => simp [intOf]; omega
      | false =>
        rw [hw, Bool.false_and] at HS
        have HW := Lib.hid hw
        clear hw
        go_wp2_with (go_at_call 65; refine (ck_withinIs HW.out _).mono ?_; rintro e w' ⟨rfl, rfl⟩)
        go_ret
        exact ⟨ret_bool (by rw [HB.out, HS.out]; rfl), HN.out⟩
    · have h2 : l.drop k = [] := List.drop_of_length_le (by omega)
      rw [h2] at HK
      have HJT : Hid (timesB 0 l = true) := Lib.hid HK.out
      clear h2 HK
      rw [HJT.out, Bool.true_and] at HB
      have c0 := HR.out.cell (i := 0) rfl
      have c1 := HR.out.cell (i := 1) rfl
      have c2 := HR.out.cell (i := 2) rfl
      have c3 := HR.out.cell (i := 3) rfl
      go_wp2_with fail
      refine (HV.out _ HN.out).mono ?_
      rintro e w1 ⟨rfl, h1⟩
      have d3 := (HR.out.keep h1).cell (i := 3) rfl
      replace HN := Lib.hid (HN.out.trans h1)
      clear c0 c1 c2 c3 h1
      cases cb with
      | false =>
        rw [Bool.false_and] at HB
        go_wp2_with fail
        go_ret
        exact ⟨ret_bool HB.out.symm, HN.out⟩
      | true =>
        rw [Bool.true_and] at HB
        go_wp2_with fail
        go_ret
        exact ⟨ret_bool (by rw [HB.out]; simp; omega), HN.out⟩
end Go.Proofs.YtlhdhfhfdkldjaaDoor
