/-
  Check, checkLines, Segment of the program. Condition: the system lies in memory.
-/
import Derived.Test.YtlhdhfhfdkldjaaDoorCkTies
namespace Go.Proofs.YtlhdhfhfdkldjaaDoor
open Go Go.RowKit
theorem all_snoc {α : Type} [Inhabited α] {l : List α} {k : Nat} (h : k < l.length) (f : α → Bool) : (l.take (k + 1)).all f = ((l.take k).all f && f (l[k]?.getD default)) := by
  rw [take_at h, List.all_append]; simp
theorem all_not_at {α : Type} [Inhabited α] {l : List α} {k : Nat} (h : k < l.length) {f : α → Bool} (hf : f (l[k]?.getD default) = false) : l.all f = false := by
  rw [getD_get h] at hf
  exact List.all_eq_false.2 ⟨_, List.getElem_mem h, by simp [hf]⟩
set_option maxHeartbeats 2000000 in
theorem ck_Check (s : Sy) (A D : Option Addr) (c d : Nat) (w : World) (hS : SysM w A D s) :
    Calls Tryd.prog 25 #[.agg #[.slice A s.tracks.length c, .slice D s.ties.length d, .int .i64 s.window]] w fun e w' => e = .returned (.int .i64 (checkE s)) ∧ New w w' := by
  have HV : Hid (∀ t J T jc tc w', TkM w' J T t → Calls Tryd.prog 23 #[.agg #[.int .i64 t.slip, .int .i64 t.drift, .slice J t.jumps.length jc, .slice T t.times.length tc]] w' fun e w'' => e = .returned (.bool (trackB t)) ∧ New w' w'') := Lib.hid (fun t J T jc tc w' h => ck_ValidTrack t J T jc tc w' h)
  have HTI : Hid (∀ w', New w w' → Calls Tryd.prog 71 #[.agg #[.slice A s.tracks.length c, .slice D s.ties.length d, .int .i64 s.window], .slice D s.ties.length d] w' fun e w'' => e = .returned (.int .i64 (tiesE s s.ties)) ∧ New w' w'') := Lib.hid (fun w' h => ck_checkTies s A D D c s.ties.length d d s.window s.ties w' (hS.1.keep h) (hS.2.keep h))
  have HE : Hid (checkE s = if 64 < s.tracks.length ∨ 400 < s.ties.length then 2 else if !s.tracks.all trackB then 30 else if tiesE s s.ties ≠ 0 then 30 else if !wiB s.window 0 120 then 30 else 0) := Lib.hid rfl
  have hA := hS.1
  have hm := hS.1.1
  have hm2 := hS.2.1
  clear hS
  generalize checkE s = ce at *
  generalize tiesE s s.ties = te at *
  obtain ⟨tks, tis, win⟩ := s
  dsimp only at HTI HE hA hm hm2 ⊢
  generalize htl : tis.length = tl at *
  clear htl
  have hn := (New.refl w).alloc (.cells #[.slice A tks.length c, .slice D tl d, .int .i64 win] 25)
  have HR := Lib.hid (RowIs.new w 25 [.slice A tks.length c, .slice D tl d, .int .i64 win])
  have c0 := HR.out.cell (i := 0) rfl
  have c1 := HR.out.cell (i := 1) rfl
  have HA := Lib.hid (hA.keep hn)
  have HN := Lib.hid hn
  clear hA hn
  by_cases hx : 64 < tks.length
  · rw [if_pos (.inl hx)] at HE
    go_enter Tryd.func25, Tryd.ntmps25
    go_wp2_with fail
    go_ret
    exact ⟨ret_int HE.out.symm, HN.out⟩
  by_cases hy : 400 < tl
  · rw [if_pos (.inr hy)] at HE
    have hx' : decide (64 < tks.length) = false := by simpa using hx
    go_enter Tryd.func25, Tryd.ntmps25
    go_wp2_with fail
    go_ret
    exact ⟨ret_int HE.out.symm, HN.out⟩
  rw [if_neg (by omega)] at HE
  have hx' : decide (64 < tks.length) = false := by simpa using hx
  have hy' : decide (400 < tl) = false := by simpa using hy
  go_enter Tryd.func25, Tryd.ntmps25
  go_wp2_with fail
  clear c0 c1 hx' hy'
  generalize hW0 : w.alloc (.cells #[.slice A tks.length c, .slice D tl d, .int .i64 win] 25) = W at *
  go_loopw [18] (fun i wr => ∃ k : Nat, k ≤ tks.length ∧ i = .int .i64 k ∧ (tks.take k).all trackB = true ∧ New W wr) (fun i _ => tks.length - (intOf i).toNat)
  case atStart => exact ⟨0, Nat.zero_le _, rfl, rfl, New.refl W⟩
  case round =>
    obtain ⟨k, hk, rfl, h0, hnw⟩ := hrel
    have H0 := Lib.hid h0
    have HNW := Lib.hid hnw
    clear h0 hnw
    by_cases hlt : k < tks.length
    · obtain ⟨b, off, rfl, -, hc⟩ := HA.out.2 (by omega)
      obtain ⟨JA, jc, TA, tc, z0, z1, z2, z3, hj, ht⟩ := (hc k hlt).keep HNW.out
      have HTM : Hid (TkM wr JA TA (tks[k]?.getD default)) := Lib.hid ⟨hj, ht⟩
      have HS1 := Lib.hid (all_snoc hlt trackB)
      have HS3 : Hid (trackB (tks[k]?.getD default) = false → tks.all trackB = false) := Lib.hid (all_not_at hlt)
      clear hc hj ht
      have HV2 := Lib.hid (HV.out (tks[k]?.getD default))
      generalize tks[k]?.getD default = t at *
      generalize trackB t = tb at *
      obtain ⟨ts, tf, tj, tt⟩ := t
      dsimp only at z0 z1 z2 z3 HV2
      have HN2 := Lib.hid ((New.refl wr).alloc (.cells #[.int .i64 ts, .int .i64 tf, .slice JA tj.length jc, .slice TA tt.length tc] 30))
      have HRT := RowIs.new wr 30 [.int .i64 ts, .int .i64 tf, .slice JA tj.length jc, .slice TA tt.length tc]
      have t0 := HRT.cell (i := 0) rfl
      have t1 := HRT.cell (i := 1) rfl
      have t2 := HRT.cell (i := 2) rfl
      have t3 := HRT.cell (i := 3) rfl
      clear HRT
      go_wp2_with fail
      refine (HV2.out _ _ _ _ _ (HTM.out.keep HN2.out)).mono ?_
      rintro e w1 ⟨rfl, h1⟩
      have HN3 := Lib.hid (HN2.out.trans h1)
      clear t0 t1 t2 t3 h1
      cases tb with
      | false =>
        go_wp2_with fail
        go_ret
        exact ⟨ret_int (by rw [HE.out, HS3.out (by first | rfl | trivial)]; rfl), HN.out.trans (HNW.out.trans HN3.out)⟩
      | true =>
        have HS2 : Hid ((tks.take (k + 1)).all trackB = true) := Lib.hid (by rw [HS1.out, H0.out]; rfl)
        go_wp2_with fail
        go_roundw
        case rel => exact ⟨k + 1, by omega, by go_num, HS2.out, HNW.out.trans HN3.out⟩
        case measure => simp [intOf]; omega
    · have h2 : tks.take k = tks := List.take_of_length_le (by omega)
      rw [h2] at H0
      rw [H0.out, if_neg (by decide)] at HE
      clear h2 H0
      have HRW := Lib.hid (HR.out.keep HNW.out)
      have c0 := HRW.out.cell (i := 0) rfl
      have c1 := HRW.out.cell (i := 1) rfl
      have c2 := HRW.out.cell (i := 2) rfl
      go_wp2_with fail
      refine (HTI.out _ (HN.out.trans HNW.out)).mono ?_
      rintro e w1 ⟨rfl, h1⟩
      have HN3 := Lib.hid (HNW.out.trans h1)
      have HRX := Lib.hid (HRW.out.keep h1)
      clear c0 c1 c2 h1
      have c2 := HRX.out.cell (i := 2) rfl
      by_cases h3 : te = 0
      · subst h3
        rw [if_neg (by decide)] at HE
        cases hw : wiB win 0 120 with
        | false =>
          rw [hw] at HE
          have HW := Lib.hid hw
          clear hw
          go_wp2_with (go_at_call 65; refine (ck_withinIs HW.out _).mono ?_; rintro e w' ⟨rfl, rfl⟩)
          go_ret
          exact ⟨ret_int HE.out.symm, HN.out.trans HN3.out⟩
        | true =>
          rw [hw] at HE
          have HW := Lib.hid hw
          clear hw
          go_wp2_with (go_at_call 65; refine (ck_withinIs HW.out _).mono ?_; rintro e w' ⟨rfl, rfl⟩)
          go_ret
          exact ⟨ret_int HE.out.symm, HN.out.trans HN3.out⟩
      · rw [if_pos h3] at HE
        have h3' : (te != 0) = true := by simpa using h3
        clear h3
        go_wp2_with fail
        go_ret
        exact ⟨ret_int HE.out.symm, HN.out.trans HN3.out⟩
/-- Refs in memory. -/
def RfC (w : World) (b o : Nat) (t : Rf) : Prop := w.cell? ⟨b, o, none⟩ = some (.int .i64 t.log) ∧ w.cell? ⟨b, o + 1, none⟩ = some (.int .i64 t.line)
def RfsA (w : World) (A : Option Addr) (l : List Rf) : Prop :=
  l.length ≤ 9223372036854775807 ∧ (0 < l.length → ∃ b off, A = some ⟨b, off, none⟩ ∧ b < w.heap.size ∧ ∀ i, i < l.length → RfC w b (off + i * 2) (l[i]?.getD default))
theorem RfsA.keep {w w' : World} {A : Option Addr} {l : List Rf} (h : RfsA w A l) (k : New w w') : RfsA w' A l :=
  ⟨h.1, fun h0 => by
    obtain ⟨b, off, e, hb, hc⟩ := h.2 h0
    exact ⟨b, off, e, Nat.lt_of_lt_of_le hb k.size, fun i hi => ⟨k.cellOf (hc i hi).1, k.cellOf (hc i hi).2⟩⟩⟩
theorem RfsA.row {w : World} {g : Nat} {e : TypeId} {l : List Rf} (h : RowIs w g e (l.flatMap fun r => [.int .i64 r.log, .int .i64 r.line])) (hl : l.length ≤ 100) : RfsA w (some ⟨g, 0, none⟩) l := by
  refine ⟨by omega, fun _ => ⟨g, 0, rfl, h.lt, fun i hi => ?_⟩⟩
  have key : ∀ (l : List Rf) (i : Nat), i < l.length → (l.flatMap fun r => [Value.int .i64 r.log, .int .i64 r.line])[i * 2]? = some (.int .i64 (l[i]?.getD default).log) ∧ (l.flatMap fun r => [Value.int .i64 r.log, .int .i64 r.line])[i * 2 + 1]? = some (.int .i64 (l[i]?.getD default).line) := by
    intro l
    induction l with
    | nil => intro i h; simp at h
    | cons x l ih =>
      intro i h
      cases i with
      | zero => exact ⟨rfl, rfl⟩
      | succ i =>
        have := ih i (by simpa using h)
        rw [show (i + 1) * 2 = i * 2 + 1 + 1 by omega]
        simpa using this
  obtain ⟨k1, k2⟩ := key l i hi
  exact ⟨by rw [Nat.zero_add]; exact h.cell k1, by rw [Nat.zero_add]; exact h.cell k2⟩
def linesE (s : Sy) (l : List Rf) : Int := if checkE s ≠ 0 then checkE s else if l.all (lineB s) then 0 else 3
set_option maxHeartbeats 2000000 in
theorem ck_checkLines (s : Sy) (A D L : Option Addr) (c d lc : Nat) (l : List Rf) (w : World) (hS : SysM w A D s) (hL : RfsA w L l) :
    Calls Tryd.prog 84 #[.agg #[.slice A s.tracks.length c, .slice D s.ties.length d, .int .i64 s.window], .slice L l.length lc] w fun e w' => e = .returned (.int .i64 (linesE s l)) ∧ New w w' := by
  have HV : Hid (∀ w', New w w' → Calls Tryd.prog 25 #[.agg #[.slice A s.tracks.length c, .slice D s.ties.length d, .int .i64 s.window]] w' fun e w'' => e = .returned (.int .i64 (checkE s)) ∧ New w' w'') := Lib.hid (fun w' h => ck_Check s A D c d w' (hS.keep h))
  have HI : Hid (∀ w' r, New w w' → Calls Tryd.prog 118 #[.agg #[.slice A s.tracks.length c, .slice D s.ties.length d, .int .i64 s.window], .agg #[.int .i64 r.log, .int .i64 r.line]] w' fun e w'' => e = .returned (.bool (lineB s r)) ∧ New w' w'') := Lib.hid (fun w' r h => ck_isLine s r A D c _ d _ w' (hS.1.keep h))
  have HE : Hid (linesE s l = if checkE s ≠ 0 then checkE s else if l.all (lineB s) then 0 else 3) := Lib.hid rfl
  have hm := hL.1
  clear hS
  generalize linesE s l = le at *
  generalize checkE s = ce at *
  generalize lineB s = lb at *
  generalize s.tracks.length = tn at *
  generalize s.ties.length = sn at *
  generalize s.window = win at *
  have hn := (New.refl w).alloc (.cells #[.slice A tn c, .slice D sn d, .int .i64 win] 25)
  have HR := Lib.hid (RowIs.new w 25 [.slice A tn c, .slice D sn d, .int .i64 win])
  have HL := Lib.hid (hL.keep hn)
  have HN := Lib.hid hn
  clear hL hn
  have c0 := HR.out.cell (i := 0) rfl
  have c1 := HR.out.cell (i := 1) rfl
  have c2 := HR.out.cell (i := 2) rfl
  go_enter Tryd.func84, Tryd.ntmps84
  go_wp2_with fail
  refine (HV.out _ HN.out).mono ?_
  rintro e W ⟨rfl, h1⟩
  have HRW0 := Lib.hid (HR.out.keep h1)
  have HLW := Lib.hid (HL.out.keep h1)
  have HNW0 := Lib.hid (HN.out.trans h1)
  clear c0 c1 c2 h1 HN HR HL
  by_cases h3 : ce = 0
  · subst h3
    rw [if_neg (by decide)] at HE
    go_wp2_with fail
    go_loopw [15] (fun i wr => ∃ k : Nat, k ≤ l.length ∧ i = .int .i64 k ∧ (l.take k).all lb = true ∧ New W wr) (fun i _ => l.length - (intOf i).toNat)
    case atStart => exact ⟨0, Nat.zero_le _, rfl, rfl, New.refl W⟩
    case round =>
      obtain ⟨k, hk, rfl, h0, hnw⟩ := hrel
      have H0 := Lib.hid h0
      have HNW := Lib.hid hnw
      clear h0 hnw
      by_cases hlt : k < l.length
      · obtain ⟨b, off, rfl, -, hc⟩ := (HLW.out.keep HNW.out).2 (by omega)
        obtain ⟨z0, z1⟩ := hc k hlt
        have HS1 := Lib.hid (all_snoc hlt lb)
        have HS3 : Hid (lb (l[k]?.getD default) = false → l.all lb = false) := Lib.hid (all_not_at hlt)
        clear hc
        generalize l[k]?.getD default = t at *
        obtain ⟨al, ai⟩ := t
        dsimp only at z0 z1
        have HN2 := Lib.hid ((New.refl wr).alloc (.cells #[.int .i64 al, .int .i64 ai] 53))
        have HRT := RowIs.new wr 53 [.int .i64 al, .int .i64 ai]
        have t0 := HRT.cell (i := 0) rfl
        have t1 := HRT.cell (i := 1) rfl
        have HRW := HRW0.out.keep (HNW.out.trans HN2.out)
        have c0 := HRW.cell (i := 0) rfl
        have c1 := HRW.cell (i := 1) rfl
        have c2 := HRW.cell (i := 2) rfl
        clear HRT HRW
        go_wp2_with fail
        refine (HI.out _ ⟨al, ai⟩ (HNW0.out.trans (HNW.out.trans HN2.out))).mono ?_
        rintro e w1 ⟨rfl, h1⟩
        have HN3 := Lib.hid (HN2.out.trans h1)
        clear t0 t1 c0 c1 c2 h1
        generalize lb ⟨al, ai⟩ = tb at *
        cases tb with
        | false =>
          go_wp2_with fail
          go_ret
          exact ⟨ret_int (by rw [HE.out, HS3.out (by first | rfl | trivial)]; rfl), HNW0.out.trans (HNW.out.trans HN3.out)⟩
        | true =>
          have HS2 : Hid ((l.take (k + 1)).all lb = true) := Lib.hid (by rw [HS1.out, H0.out]; rfl)
          go_wp2_with fail
          go_roundw
          case rel => exact ⟨k + 1, by omega, by go_num, HS2.out, HNW.out.trans HN3.out⟩
          case measure => simp [intOf]; omega
      · have h2 : l.take k = l := List.take_of_length_le (by omega)
        rw [h2] at H0
        rw [H0.out, if_pos rfl] at HE
        clear h2 H0
        go_wp2_with fail
        go_ret
        exact ⟨ret_int HE.out.symm, HNW0.out.trans HNW.out⟩
  · rw [if_pos h3] at HE
    have h3' : (ce != 0) = true := by simpa using h3
    clear h3
    go_wp2_with fail
    go_ret
    exact ⟨ret_int HE.out.symm, HNW0.out⟩
def segV (t : Tk) (m : Int) : Value := if clockB t = true ∧ wiB m 0 20000 = true then .tuple #[.int .i64 (segN t.jumps m), .int .i64 0] else .tuple #[.int .i64 0, .int .i64 1]
set_option maxHeartbeats 1000000 in
theorem ck_Segment (t : Tk) (m : Int) (J : Option Addr) (c : Nat) (w : World) (hJ : IntsA w J t.jumps) :
    Calls Tryd.prog 17 #[.agg #[.int .i64 t.slip, .int .i64 t.drift, .slice J t.jumps.length c], .int .i64 m] w fun e w' => e = .returned (segV t m) ∧ New w w' := by
  have HV : Hid (∀ w', New w w' → Calls Tryd.prog 21 #[.agg #[.int .i64 t.slip, .int .i64 t.drift, .slice J t.jumps.length c]] w' fun e w'' => e = .returned (.bool (clockB t)) ∧ New w' w'') := Lib.hid (fun w' hn => ck_ValidClock t J c w' (hJ.keep hn))
  have HG : Hid (∀ w', New w w' → Calls Tryd.prog 66 #[.agg #[.int .i64 t.slip, .int .i64 t.drift, .slice J t.jumps.length c], .int .i64 m] w' fun e w'' => e = .returned (.int .i64 (segN t.jumps m)) ∧ New w' w'') := Lib.hid (fun w' hn => ck_segment t.slip t.drift m J c t.jumps w' (hJ.keep hn))
  have HE : Hid (segV t m = if clockB t = true ∧ wiB m 0 20000 = true then .tuple #[.int .i64 (segN t.jumps m), .int .i64 0] else .tuple #[.int .i64 0, .int .i64 1]) := Lib.hid rfl
  clear hJ
  generalize segV t m = sv at *
  generalize clockB t = cb at *
  generalize segN t.jumps m = sn at *
  generalize t.slip = a at *
  generalize t.drift = f at *
  generalize t.jumps.length = jn at *
  have HN := Lib.hid ((New.refl w).alloc (.cells #[.int .i64 a, .int .i64 f, .slice J jn c] 28))
  have HR := RowIs.new w 28 [.int .i64 a, .int .i64 f, .slice J jn c]
  have c0 := HR.cell (i := 0) rfl
  have c1 := HR.cell (i := 1) rfl
  have c2 := HR.cell (i := 2) rfl
  go_enter Tryd.func17, Tryd.ntmps17
  go_wp2_with fail
  refine (HV.out _ HN.out).mono ?_
  rintro e w1 ⟨rfl, h1⟩
  have HN2 := Lib.hid (HN.out.trans h1)
  have HR2 := HR.keep h1
  clear c0 c1 c2 h1 HR
  have c0 := HR2.cell (i := 0) rfl
  have c1 := HR2.cell (i := 1) rfl
  have c2 := HR2.cell (i := 2) rfl
  clear HR2
  cases cb with
  | false =>
    rw [if_neg (by simp)] at HE
    go_wp2_with fail
    go_ret2
    exact ⟨ret_val HE.out.symm, HN2.out⟩
  | true =>
    cases hw : wiB m 0 20000 with
    | false =>
      rw [hw, if_neg (by simp)] at HE
      have HW := Lib.hid hw
      clear hw
      go_wp2_with (go_at_call 65; refine (ck_withinIs HW.out _).mono ?_; rintro e w' ⟨rfl, rfl⟩)
      go_ret2
      exact ⟨ret_val HE.out.symm, HN2.out⟩
    | true =>
      rw [hw, if_pos (by simp)] at HE
      have HW := Lib.hid hw
      clear hw
      go_wp2_with (go_at_call 65; refine (ck_withinIs HW.out _).mono ?_; rintro e w' ⟨rfl, rfl⟩)
      refine (HG.out _ HN2.out).mono ?_
      rintro e w2 ⟨rfl, h2⟩
      go_wp2_with fail
      go_ret2
      exact ⟨ret_val HE.out.symm, HN2.out.trans h2⟩
end Go.Proofs.YtlhdhfhfdkldjaaDoor
