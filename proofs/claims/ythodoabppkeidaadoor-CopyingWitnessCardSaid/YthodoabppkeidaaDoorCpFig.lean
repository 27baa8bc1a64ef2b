/-
  Number, CopyNumber of the program: the number that a text stands for, and what it costs to hear one number for another one. Condition: the tables lie in memory, the library's of powers of ten among them.
-/
import Derived.Test.YthodoabppkeidaaDoorCpApart
import Derived.Deep.CutRange
namespace Go.Proofs.YthodoabppkeidaaDoor
open Go Go.RowKit
/-- The number of a text, or 0 with an error. -/
def numC (mode : Int) (l : Bytes) : Nat := match mdOf mode with
  | some m => (numL m l).getD 0
  | none => 0
def numE (mode : Int) (l : Bytes) : Int := match mdOf mode with
  | some m => if (numL m l).isSome then 0 else 1
  | none => 40
theorem index_le (c : UInt8) (l : Bytes) : -1 ≤ Lib.indexByte l c ∧ Lib.indexByte l c < l.length := by
  rw [indexByte_idx]
  split <;> omega
theorem readC_le (m : Md) (c : UInt8) : readC m c ≤ 9 := by
  have h1 := index_le c digL
  have h2 := index_le c (figL m)
  rw [figL_len] at h2
  have e : digL.length = 10 := rfl
  unfold readC
  omega
set_option maxRecDepth 100000 in
set_option maxHeartbeats 2000000 in
theorem cp_Number (mode : Int) (l : Bytes) (w : World) (hl : l.length ≤ 1000000) : Calls Tryd.prog 29 #[.int .i64 mode, .string (B l)] w fun e w' =>
    e = .returned (.tuple #[.int .i64 (numC mode l), .int .i64 (numE mode l)]) ∧ New w w' := by
  cases hm : mdOf mode with
  | none =>
    have HM := Lib.hid (cp_mediumOf_no mode w hm)
    have e1 : numE mode l = 40 := by rw [numE, hm]
    have e2 : numC mode l = 0 := by rw [numC, hm]
    rw [e1, e2]
    clear hm e1 e2
    go_enter Tryd.func29, Tryd.ntmps29
    go_wp2_with (go_at_call 53; refine HM.out.mono ?_; rintro e w' ⟨rfl, rfl⟩)
    go_ret2
    exact ⟨rfl, New.refl _⟩
  | some m =>
    have HM := Lib.hid (cp_mediumOf m mode w hm)
    rw [medV_eq] at HM
    have e1 : numE mode l = if (numL m l).isSome then 0 else 1 := by rw [numE, hm]
    have e2 : numC mode l = (numL m l).getD 0 := by rw [numC, hm]
    rw [e1, e2]
    generalize hEX : (if (numL m l).isSome then (0 : Int) else 1) = EX
    generalize hNX : (numL m l).getD 0 = NX
    have HEX := Lib.hid hEX
    have HNX := Lib.hid hNX
    clear hEX hNX
    have hsz : (B l).size = l.length := B_size l
    have HW := Lib.hid (cp_within l.length 1 5 w)
    have HFG := Lib.hid (cp_figures m)
    have hmt := mth_figures m
    have hen := ent_figures m
    clear hm e1 e2
    generalize htm : medT m = tm at *
    generalize hfm : figF m = fm at *
    by_cases hr : (1 : Int) ≤ (l.length : Int) ∧ (l.length : Int) ≤ 5
    · rw [decide_eq_true hr] at HW
      have e3 : numL m l = numG m 0 l := if_neg (by omega)
      rw [e3] at HEX HNX
      clear e3
      go_enter Tryd.func29, Tryd.ntmps29
      go_wp2_with (first | (go_at_call 53; refine HM.out.mono ?_; rintro e w' ⟨rfl, rfl⟩) | (go_at_call 54; refine HW.out.mono ?_; rintro e w' ⟨rfl, rfl⟩))
      go_loopw [25, 8] (fun s25 s8 wr => ∃ j nj : Nat, j ≤ l.length ∧ s25 = .int .i64 j ∧ s8 = .int .i64 nj ∧ numG m 0 l = numG m nj (l.drop j) ∧ nj < 10 ^ j ∧ New w wr) (fun i _ _ => l.length - (intOf i).toNat)
      case atStart => exact ⟨0, 0, by omega, rfl, rfl, rfl, by decide, New.refl _⟩
      case round =>
        obtain ⟨j, nj, hj, rfl, rfl, hg, hp, hn⟩ := hrel
        have HG := Lib.hid hg
        have HN := Lib.hid hn
        clear hg hn
        by_cases hlt : j < l.length
        · have hp5 : nj < 10 ^ 4 := Nat.lt_of_lt_of_le hp (Nat.pow_le_pow_right (by decide) (by omega))
          have hdr : l.drop j = l[j] :: l.drop (j + 1) := List.drop_eq_getElem_cons hlt
          have hat := B_at l hlt
          have HDR := Lib.hid hdr
          clear hdr
          obtain ⟨Sx, hSx⟩ : ∃ Sx, B l = Sx := ⟨_, rfl⟩
          have hat2 : ∀ (h : j < Sx.size), Sx[j]'h = l[j] := by subst hSx; exact fun h => hat
          rw [hSx] at hsz
          rw [hSx]
          clear hat hSx
          generalize l[j] = c at *
          have HIX : Hid (∀ (s : ByteArray) w', Calls Tryd.prog 58 #[.string s, .int .u8 c.toNat] w' fun e w'' => e = .returned (.int .i64 (Lib.indexByte s.data.toList c)) ∧ w' = w'') := Lib.hid (fun s w' => by
            have h := IndexB (bs s) c w'
            rw [B_bs] at h
            exact h)
          have i1 : (j : Int) < (l.length : Int) := by omega
          go_upto_region 10 with fail
          go_cut [10] from 28 to 38 (fun s10 wx => s10 = .int .i64 (readC m c) ∧ New wr wx)
          case first =>
            go_region_held3 (fun w' => New wr w')
              (first | exact (New.refl _).drew | exact New.trans (by assumption) (by assumption) | exact New.trans (New.refl _).drew (by assumption) | assumption)
              (first | (go_at_call 58; refine (HIX.out _ _).mono ?_; rintro e w' ⟨rfl, rfl⟩) | (go_at_fn fm; refine (HFG.out _).mono ?_; rintro e w' ⟨rfl, hb⟩))
            all_goals
              go_wp2_with fail
              go_meet
              case rel => exact ⟨by unfold readC digL; rw [B_data], by first | assumption | exact (New.refl _).drew | exact New.trans (New.refl _).drew (by assumption)⟩
          case rest =>
            obtain ⟨rfl, hwc⟩ := hcut
            have HWC := Lib.hid (HN.out.trans hwc)
            have hrc := readC_le m c
            clear hwc HIX
            by_cases h0 : readC m c < 0
            · have e4 : numG m nj (l.drop j) = none := by rw [HDR.out, numG, if_pos h0]
              have HE := Lib.hid (HG.out.trans e4)
              clear e4 hp hp5
              go_wp2_with fail
              go_ret2
              have h1 := HEX.out
              have h2 := HNX.out
              rw [HE.out] at h1 h2
              obtain rfl : (1 : Int) = EX := h1
              obtain rfl : (0 : Nat) = NX := h2
              exact ⟨rfl, HWC.out⟩
            · obtain ⟨d, hd⟩ : ∃ d : Nat, readC m c = d := ⟨(readC m c).toNat, by omega⟩
              have e4 : numG m nj (l.drop j) = numG m (10 * nj + d) (l.drop (j + 1)) := by rw [HDR.out, numG, if_neg h0, hd, Int.toNat_natCast]
              have HE := Lib.hid (HG.out.trans e4)
              rw [hd] at hrc h0 ⊢
              have hpn : 10 * nj + d < 10 ^ (j + 1) := by rw [Nat.pow_succ]; omega
              have HPN := Lib.hid hpn
              have hp6 : nj < 10000 := hp5
              have i2 : IntKind.i64.wrap (10 * (nj : Int)) = 10 * (nj : Int) := IntWalk.i64_in _ (by omega)
              have i3 : IntKind.i64.wrap (10 * (nj : Int) + (d : Int)) = 10 * (nj : Int) + (d : Int) := IntWalk.i64_in _ (by omega)
              clear e4 hp hp5 hpn hd
              go_wp2_with fail
              refine ⟨⟨j + 1, 10 * nj + d, by omega, by go_num, ?_, HE.out, HPN.out, HWC.out⟩, by simp [intOf]; omega⟩
              go_num
        · obtain rfl : j = l.length := by omega
          have e4 := HG.out
          rw [List.drop_length] at e4
          have HE := Lib.hid e4
          clear e4 hp
          go_wp2_with fail
          go_ret2
          have h1 := HEX.out
          have h2 := HNX.out
          rw [HE.out] at h1 h2
          obtain rfl : (0 : Int) = EX := h1
          obtain rfl : nj = NX := h2
          exact ⟨rfl, HN.out⟩
    · rw [decide_eq_false hr] at HW
      have e3 : numL m l = none := if_pos (by omega)
      rw [e3] at HEX HNX
      obtain rfl : (1 : Int) = EX := HEX.out
      obtain rfl : (0 : Nat) = NX := HNX.out
      clear e3 HEX HNX
      go_enter Tryd.func29, Tryd.ntmps29
      go_wp2_with (first | (go_at_call 53; refine HM.out.mono ?_; rintro e w' ⟨rfl, rfl⟩) | (go_at_call 54; refine HW.out.mono ?_; rintro e w' ⟨rfl, rfl⟩))
      go_ret2
      exact ⟨rfl, New.refl _⟩
theorem digE_cases (mode n : Int) : (digE mode n = 0 ∧ ∃ m, mdOf mode = some m ∧ 0 ≤ n ∧ n ≤ 99999 ∧ sentC mode n = sentL m n.toNat) ∨ (digE mode n ≠ 0 ∧ sentC mode n = []) := by
  unfold digE sentC
  cases hm : mdOf mode with
  | none => right; exact ⟨by simp, rfl⟩
  | some m =>
    by_cases hr : 0 ≤ n ∧ n ≤ 99999
    · left
      exact ⟨by simp [hr], m, rfl, hr.1, hr.2, if_pos hr⟩
    · right
      exact ⟨by simp [hr], if_neg hr⟩
theorem sent_hear {mode a b : Int} (ha : digE mode a = 0) (hb : digE mode b = 0) : hearE mode (sentC mode a) (sentC mode b) = 0 ∧ (sentC mode a = sentC mode b ↔ a = b) := by
  rcases digE_cases mode a with ⟨_, m, hm, a0, a1, ea⟩ | ⟨h, _⟩
  · rcases digE_cases mode b with ⟨_, m', hm', b0, b1, eb⟩ | ⟨h, _⟩
    · rw [hm] at hm'
      obtain rfl := Option.some.inj hm'
      rw [ea, eb]
      obtain ⟨ka, hka⟩ := sent_keys m (n := a.toNat) (by omega)
      obtain ⟨kb, hkb⟩ := sent_keys m (n := b.toNat) (by omega)
      have la := sent_len m (n := a.toNat) (by omega)
      have lb := sent_len m (n := b.toNat) (by omega)
      refine ⟨hearE_mk hm hka hkb (by omega) (by omega), fun h => ?_, fun h => by rw [h]⟩
      have := sent_inj m (by omega) (by omega) h
      omega
    · exact absurd hb h
  · exact absurd ha h
theorem sentC_len (mode n : Int) : (sentC mode n).length ≤ 5 ∧ (digE mode n = 0 → 1 ≤ (sentC mode n).length) := by
  rcases digE_cases mode n with ⟨_, m, hm, a0, a1, ea⟩ | ⟨h, e⟩
  · have la := sent_len m (n := n.toNat) (by omega)
    rw [ea]
    exact ⟨la.2, fun _ => la.1⟩
  · rw [e]
    exact ⟨by simp, fun h2 => absurd h2 h⟩
theorem num_sentC {mode n : Int} (h : digE mode n = 0) : numE mode (sentC mode n) = 0 ∧ (numC mode (sentC mode n) : Int) = n := by
  rcases digE_cases mode n with ⟨_, m, hm, a0, a1, ea⟩ | ⟨h2, _⟩
  · have hb := num_back m (n := n.toNat) (by omega)
    rw [ea, numE, numC, hm]
    simp only [hb]
    exact ⟨rfl, by simp; omega⟩
  · exact absurd h h2
/-- What it costs to hear a number for another one, or 0 with an error. -/
def cpnE (mode a b : Int) : Int := if digE mode a ≠ 0 then digE mode a else digE mode b
def cpnC (F : List Bytes) (mode a b : Int) : Nat := if cpnE mode a b = 0 then costC F mode (sentC mode a) (sentC mode b) else 0
theorem cpnE_zero {mode a b : Int} (h : cpnE mode a b = 0) : digE mode a = 0 ∧ digE mode b = 0 := by
  unfold cpnE at h
  split at h
  · next h1 => exact absurd h h1
  · next h1 => exact ⟨by simpa using h1, h⟩
theorem cpnC_zero (F : List Bytes) {mode a b : Int} (h : cpnE mode a b = 0) : cpnC F mode a b = 0 ↔ a = b := by
  obtain ⟨h1, h2⟩ := cpnE_zero h
  obtain ⟨h3, h4⟩ := sent_hear h1 h2
  rw [cpnC, if_pos h, costC_zero F h3, h4]
set_option maxHeartbeats 1000000 in
theorem cp_CopyNumber (F : List Bytes) (mode a b : Int) (w : World) (hT : TabAt w F) (hp : HasPow w) : Calls Tryd.prog 30 #[.int .i64 mode, .int .i64 a, .int .i64 b] w fun e w' =>
    e = .returned (.tuple #[.int .i64 (cpnC F mode a b : Nat), .int .i64 (cpnE mode a b)]) ∧ New w w' := by
  have HD1 := Lib.hid (cp_Digits mode a w hp)
  by_cases ha : digE mode a = 0
  · have HD2 := Lib.hid (fun w' (hn : New w w') => cp_Digits mode b w' (hp.keep hn))
    by_cases hb : digE mode b = 0
    · have e1 : cpnE mode a b = 0 := by rw [cpnE, if_neg (by rw [ha]; simp), hb]
      have e2 : cpnC F mode a b = costC F mode (sentC mode a) (sentC mode b) := if_pos e1
      have hh := (sent_hear ha hb).1
      have l1 := (sentC_len mode a).1
      have l2 := (sentC_len mode b).1
      have HCO : Hid (∀ w', New w w' → Calls Tryd.prog 23 #[.int .i64 mode, .string (B (sentC mode a)), .string (B (sentC mode b))] w' fun e w'' => e = .returned (.tuple #[.int .i64 (costC F mode (sentC mode a) (sentC mode b) : Nat), .int .i64 0]) ∧ New w' w'') := Lib.hid (fun w' hn => by
        have h := cp_Cost F mode (sentC mode a) (sentC mode b) w' (hT.keep hn) (by omega) (by omega)
        rw [hh] at h
        exact h)
      rw [e1, e2]
      rw [ha] at HD1
      rw [hb] at HD2
      clear hT hp e1 e2 hh ha hb l1 l2
      generalize B (sentC mode a) = s1 at *
      generalize B (sentC mode b) = s2 at *
      go_enter Tryd.func30, Tryd.ntmps30
      go_wp2_with fail
      refine HD1.out.mono ?_
      rintro e w1 ⟨rfl, n1⟩
      have N1 := Lib.hid n1
      clear n1
      go_wp2_with fail
      refine (HD2.out _ N1.out).mono ?_
      rintro e w2 ⟨rfl, n2⟩
      have N2 := Lib.hid (N1.out.trans n2)
      clear n2
      go_wp2_with fail
      refine (HCO.out _ N2.out).mono ?_
      rintro e w3 ⟨rfl, n3⟩
      go_wp2_with fail
      go_ret2
      exact ⟨rfl, N2.out.trans n3⟩
    · have e1 : cpnE mode a b = digE mode b := by rw [cpnE, if_neg (by rw [ha]; simp)]
      have e2 : cpnC F mode a b = 0 := if_neg (by rw [e1]; exact hb)
      have hE : (digE mode b != 0) = true := by rw [bne_iff_ne]; exact hb
      rw [e1, e2]
      rw [ha] at HD1
      clear hT hp e1 e2 ha
      generalize B (sentC mode a) = s1 at *
      generalize digE mode b = E at *
      go_enter Tryd.func30, Tryd.ntmps30
      go_wp2_with fail
      refine HD1.out.mono ?_
      rintro e w1 ⟨rfl, n1⟩
      have N1 := Lib.hid n1
      clear n1
      go_wp2_with fail
      refine (HD2.out _ N1.out).mono ?_
      rintro e w2 ⟨rfl, n2⟩
      have N2 := Lib.hid (N1.out.trans n2)
      clear n2
      go_wp2_with fail
      go_ret2
      exact ⟨rfl, N2.out⟩
  · have e1 : cpnE mode a b = digE mode a := if_pos ha
    have e2 : cpnC F mode a b = 0 := if_neg (by rw [e1]; exact ha)
    have hE : (digE mode a != 0) = true := by rw [bne_iff_ne]; exact ha
    rw [e1, e2]
    clear hT hp e1 e2
    generalize digE mode a = E at *
    go_enter Tryd.func30, Tryd.ntmps30
    go_wp2_with fail
    refine HD1.out.mono ?_
    rintro e w1 ⟨rfl, n1⟩
    have N1 := Lib.hid n1
    clear n1
    go_wp2_with fail
    go_ret2
    exact ⟨rfl, N1.out⟩
end Go.Proofs.YthodoabppkeidaaDoor
