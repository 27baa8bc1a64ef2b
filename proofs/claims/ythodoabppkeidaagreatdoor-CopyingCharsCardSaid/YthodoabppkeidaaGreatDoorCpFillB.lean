/-
  fill of the program at codes: the table of two lists of signs. Condition: the lists are short, and lie elsewhere than the table.
-/
import Derived.Test.YthodoabppkeidaaGreatDoorCpFill
namespace Go.Proofs.YthodoabppkeidaaGreatDoor
open Go Go.RowKit
def byV (b : UInt8) : Value := .int .u8 b.toNat
def bytesV (s : Bytes) : List Value := s.map byV
set_option maxRecDepth 100000 in
set_option maxHeartbeats 1000000 in
theorem cp_fill_byte (g : Nat) (e : TypeId) (N C : Nat) (s h : Bytes) (vs vh : Value) (cs : List Value) (w : World) (hr : RowIs w g e cs) (hN : cs.length = N) (hNC : N ≤ C) (hC : C ≤ 100000)
    (hL : (s.length + 1) * (h.length + 1) ≤ N) (hs : SlOff w g vs (bytesV s)) (hh : SlOff w g vh (bytesV h)) :
    Calls Tryz.prog 166 #[.slice (some ⟨g, 0, none⟩) N C, vs, vh, .iface 211 (.agg #[])] w fun en w' => en = .returned (.int .i64 (lc signC s h : Nat)) ∧ (Upd g w w' ∧ Filled w' g e signC s h N ((s.length + 1) * (h.length + 1))) := by
  obtain ⟨A1, c1, rfl, hs1, hs2, hs3⟩ := hs
  obtain ⟨A2, c2, rfl, hh1, hh2, hh3⟩ := hh
  have l1 : (bytesV s).length = s.length := by simp [bytesV]
  have l2 : (bytesV h).length = h.length := by simp [bytesV]
  rw [l1] at hs1 hs3 ⊢
  rw [l2] at hh1 hh3 ⊢
  have hm1 := mth_signs_miss
  have hm2 := mth_signs_extra
  have HS := Lib.hid hs3
  have HH := Lib.hid hh3
  have HF := Lib.hid (Filled.zero signC s h hr)
  rw [hN] at HF
  have HL := Lib.hid hL
  have b1 : s.length ≤ 100000 := by
    have : (s.length + 1) * 1 ≤ (s.length + 1) * (h.length + 1) := Nat.mul_le_mul_left _ (by omega)
    omega
  have b2 : h.length ≤ 100000 := by
    have : 1 * (h.length + 1) ≤ (s.length + 1) * (h.length + 1) := Nat.mul_le_mul_right _ (by omega)
    omega
  clear hs3 hh3 l1 l2 hr hL
  go_enter Tryz.func166, Tryz.ntmps166
  go_wp2_with fail
  refine (cp_signs_miss _).mono ?_
  rintro e1 w1 ⟨rfl, k1⟩
  go_wp2_with fail
  refine (cp_signs_extra _).mono ?_
  rintro e1 w2 ⟨rfl, k2⟩
  have HF2 := Lib.hid (HF.out.keep (k1.trans k2))
  have HU := Lib.hid (Upd.of (g := g) (k1.trans k2))
  clear k1 k2 HF hm1 hm2
  go_wp2_with fail
  go_loopw [26, 12] (fun i at' wr => ∃ a p : Nat, a ≤ s.length + 1 ∧ i = .int .i64 a ∧ at' = .int .i64 p ∧ Hid (p = a * (h.length + 1)) ∧ Hid (Upd g w wr) ∧ Hid (Filled wr g e signC s h N p)) (fun i _ _ => s.length + 1 - (intOf i).toNat)
  case atStart => exact ⟨0, 0, by omega, rfl, rfl, Lib.hid (by omega), HU, HF2⟩
  case round =>
    obtain ⟨a, p, ha, rfl, rfl, HP, HU1, HF1⟩ := hrel
    clear HF2 HU
    by_cases hlt : a < s.length + 1
    · have ht : decide ((a : Int) < (s.length : Int) + 1) = true := by rw [decide_eq_true_eq]; omega
      go_wp2_with fail
      obtain ⟨wo, hwo⟩ : ∃ wo, wo = wr := ⟨_, rfl⟩
      subst hwo
      go_loopw [32, 12] (fun i at' wr => ∃ k p : Nat, k ≤ h.length + 1 ∧ i = .int .i64 k ∧ at' = .int .i64 p ∧ Hid (p = a * (h.length + 1) + k) ∧ Hid (Upd g w wr) ∧ Hid (Filled wr g e signC s h N p)) (fun i _ _ => h.length + 1 - (intOf i).toNat)
      case atStart => exact ⟨0, p, by omega, rfl, rfl, Lib.hid (by have := HP.out; omega), HU1, HF1⟩
      case round =>
        obtain ⟨k, q, hk, rfl, rfl, HQ, HU2, HF2⟩ := hrel
        clear HP HU1 HF1
        by_cases hlt2 : k < h.length + 1
        · have hq : q < N := by
            have h1 := HQ.out
            have h2 := HL.out
            have h3 : a * (h.length + 1) ≤ s.length * (h.length + 1) := Nat.mul_le_mul_right _ (by omega)
            have h4 : (s.length + 1) * (h.length + 1) = s.length * (h.length + 1) + (h.length + 1) := by rw [Nat.add_mul, Nat.one_mul]
            omega
          obtain ⟨v0, hc0, hf0⟩ := HF2.out.there hq
          rcases Nat.eq_zero_or_pos a with rfl | hpos
          · have HX : Hid ((k : Int) = (dpAt signC s h q : Nat)) := Lib.hid (by
              have h1 := HQ.out
              rw [Nat.zero_mul, Nat.zero_add] at h1
              rw [h1, dpAt_row0 signC s h (by omega)]
              simp [signC])
            go_wp2_with fail
            go_roundw
            case rel => exact ⟨k + 1, q + 1, by omega, by go_num, by go_num, Lib.hid (by have := HQ.out; omega), Lib.hid (HU2.out.set _ _), Lib.hid (HF2.out.put hq HX.out)⟩
            case measure => (simp [intOf]; try omega)
          · have ha0 : ((a : Int) == 0) = false := by rw [beq_eq_false_iff_ne]; omega
            rcases Nat.eq_zero_or_pos k with rfl | hkpos
            · have HX : Hid ((a : Int) = (dpAt signC s h q : Nat)) := Lib.hid (by
                have h1 := HQ.out
                rw [Nat.add_zero] at h1
                rw [h1, dpAt_col0 signC s h (by omega)]
                simp [signC])
              go_wp2_with fail
              go_roundw
              case rel => exact ⟨0 + 1, q + 1, by omega, by go_num, by go_num, Lib.hid (by have := HQ.out; omega), Lib.hid (HU2.out.set _ _), Lib.hid (HF2.out.put hq HX.out)⟩
              case measure => (simp [intOf]; try omega)
            · have hk0 : ((k : Int) == 0) = false := by rw [beq_eq_false_iff_ne]; omega
              obtain ⟨B1, O1, rfl, ⟨hB1, hB1'⟩, hc1⟩ := HS.out (by omega)
              obtain ⟨B2, O2, rfl, ⟨hB2, hB2'⟩, hc2⟩ := HH.out (by omega)
              have hx : (bytesV s)[a - 1]? = some (byV (s[a - 1]'(by omega))) := by
                rw [bytesV, List.getElem?_map, List.getElem?_eq_getElem (by omega)]; rfl
              have hy : (bytesV h)[k - 1]? = some (byV (h[k - 1]'(by omega))) := by
                rw [bytesV, List.getElem?_map, List.getElem?_eq_getElem (by omega)]; rfl
              have e1 := hc1 _ _ hx
              have e2 := hc2 _ _ hy
              have d1 := fun w' (u : Upd g w w') => (cell_upd u hB1 hB1' (O1 + (a - 1))).trans e1
              have d2 := fun w' (u : Upd g w w') => (cell_upd u hB2 hB2' (O2 + (k - 1))).trans e2
              have HD : Hid (∀ w', New wr w' → New wr w' ∧ w'.cell? ⟨B1, O1 + (a - 1), none⟩ = some (.int .u8 (s[a - 1]'(by omega)).toNat) ∧ w'.cell? ⟨B2, O2 + (k - 1), none⟩ = some (.int .u8 (h[k - 1]'(by omega)).toNat)) :=
                Lib.hid (fun w' hn => ⟨hn, d1 w' (HU2.out.call hn), d2 w' (HU2.out.call hn)⟩)
              generalize hX : s[a - 1]'(by omega) = x at HD
              generalize hY : h[k - 1]'(by omega) = y at HD
              have HXY := Lib.hid (And.intro hX hY)
              clear hc1 hc2 hx hy e1 e2 d1 d2 hX hY
              go_wp2_with fail
              have i1 : IntKind.i64.wrap ((a : Int) - 1) = (a : Int) - 1 := IntWalk.i64_in _ (by omega)
              have i2 : IntKind.i64.wrap ((k : Int) - 1) = (k : Int) - 1 := IntWalk.i64_in _ (by omega)
              have i3 : ((a : Int) - 1).toNat = a - 1 := by omega
              have i4 : ((k : Int) - 1).toNat = k - 1 := by omega
              have i5 : 0 ≤ (a : Int) - 1 := by omega
              have i6 : 0 ≤ (k : Int) - 1 := by omega
              have i7 : (a : Int) - 1 < (s.length : Int) := by omega
              have i8 : (k : Int) - 1 < (h.length : Int) := by omega
              have j1 : (1 : Int) ≤ (a : Int) := by omega
              have j2 : (1 : Int) ≤ (k : Int) := by omega
              have j3 : (a : Int) ≤ (s.length : Int) := by omega
              have j4 : (k : Int) ≤ (h.length : Int) := by omega
              have j5 : a ≤ s.length := by omega
              have j6 : k ≤ h.length := by omega
              go_region_held3 (fun w' => New wr w' ∧ w'.cell? ⟨B1, O1 + (a - 1), none⟩ = some (.int .u8 x.toNat) ∧ w'.cell? ⟨B2, O2 + (k - 1), none⟩ = some (.int .u8 y.toNat))
                (first | exact HD.out _ (New.refl _).drew | exact HD.out _ (New.trans (New.refl _).drew (by assumption)) | exact HD.out _ (New.trans (by first | assumption | exact (by assumption : New _ _ ∧ _).1) (by assumption)))
                (first | (go_at_call 167; refine (cp_swapCost_sign x y _).mono ?_; rintro e w' ⟨rfl, hb⟩))
              go_wp2_with fail
              have hn : New wr w' := by first | assumption | exact (by assumption : New _ w' ∧ _).1
              have HF3 := Lib.hid (HF2.out.keep hn)
              have HU3 := Lib.hid (HU2.out.call hn)
              have hq1 : h.length + 2 ≤ q := by
                have h1 := HQ.out
                have h2 : 1 * (h.length + 1) ≤ a * (h.length + 1) := Nat.mul_le_mul_right _ hpos
                omega
              have g1 := HF3.out.cell (q := q - (h.length + 1) - 1) (by omega)
              have g2 := HF3.out.cell (q := q - (h.length + 1)) (by omega)
              have g3 := HF3.out.cell (q := q - 1) (by omega)
              obtain ⟨v1, g4, g5⟩ := HF3.out.there hq
              clear hn i1 i2 i3 i4 i5 i6 i7 i8 hc0 hf0
              have HX : Hid (min (min (dpAt signC s h (q - (h.length + 1) - 1) + signC.sw x y) (dpAt signC s h (q - (h.length + 1)) + 1)) (dpAt signC s h (q - 1) + 1) = dpAt signC s h q) := Lib.hid (by
                obtain ⟨rfl, rfl⟩ := HXY.out
                have h1 := HQ.out
                have h2 := dpAt_step signC s h (i := a - 1) (k := k - 1) (by omega) (by omega)
                have e0 : a - 1 + 1 = a := by omega
                have e1 : k - 1 + 1 = k := by omega
                have e4 : a * (h.length + 1) = (a - 1) * (h.length + 1) + (h.length + 1) := by
                  rw [← Nat.succ_mul]; congr 1; omega
                rw [e0, e1, ← h1, show a * (h.length + 1) + (k - 1) = q - 1 by omega, show (a - 1) * (h.length + 1) + (k - 1) = q - (h.length + 1) - 1 by omega, show (a - 1) * (h.length + 1) + k = q - (h.length + 1) by omega] at h2
                exact h2.symm)
              have m1 := dpAt_le signC s h 1 (Nat.le_refl _) (Nat.le_refl _) (q - (h.length + 1) - 1)
              have m2 := dpAt_le signC s h 1 (Nat.le_refl _) (Nat.le_refl _) (q - (h.length + 1))
              have m3 := dpAt_le signC s h 1 (Nat.le_refl _) (Nat.le_refl _) (q - 1)
              have m4 : signC.sw x y ≤ 1 := by simp only [signC]; split <;> omega
              rw [Nat.mul_one] at m1 m2 m3
              generalize dpAt signC s h (q - (h.length + 1) - 1) = z1 at g1 m1 HX
              generalize dpAt signC s h (q - (h.length + 1)) = z2 at g2 m2 HX
              generalize dpAt signC s h (q - 1) = z3 at g3 m3 HX
              generalize signC.sw x y = z4 at m4 HX ⊢
              generalize hr1 : q - (h.length + 1) - 1 = r1 at g1
              generalize hr2 : q - (h.length + 1) = r2 at g2
              generalize hr3 : q - 1 = r3 at g3
              have n1 : IntKind.i64.wrap ((q : Int) - ((h.length : Int) + 1)) = (r2 : Int) := by rw [IntWalk.i64_in _ (by omega)]; omega
              have n2 : IntKind.i64.wrap ((r2 : Int) - 1) = (r1 : Int) := by rw [IntWalk.i64_in _ (by omega)]; omega
              have n3 : IntKind.i64.wrap ((q : Int) - 1) = (r3 : Int) := by rw [IntWalk.i64_in _ (by omega)]; omega
              have p1 : r1 < N := by omega
              have p2 : r2 < N := by omega
              have p3 : r3 < N := by omega
              have p4 : (r1 : Int) < (N : Int) := by omega
              have p5 : (r2 : Int) < (N : Int) := by omega
              have p6 : (r3 : Int) < (N : Int) := by omega
              have p7 : (q : Int) < (N : Int) := by omega
              have n7 : IntKind.i64.wrap ((z1 : Int) + (z4 : Int)) = (z1 : Int) + (z4 : Int) := IntWalk.i64_in _ (by omega)
              have n8 : IntKind.i64.wrap ((z2 : Int) + 1) = (z2 : Int) + 1 := IntWalk.i64_in _ (by omega)
              have n9 : IntKind.i64.wrap ((z3 : Int) + 1) = (z3 : Int) + 1 := IntWalk.i64_in _ (by omega)
              clear hr1 hr2 hr3
              go_still_tail 28, (by kernel_rfl)
              change wpList _ _ _ _ _ w'.drew
              have g6 : w'.drew.cell? ⟨g, q, none⟩ = some v1 := g4
              have g7 : w'.drew.frozen? ⟨g, q, none⟩ = false := g5
              have HF4 := Lib.hid (HF3.out.keep (New.refl _).drew)
              have HU4 := Lib.hid (HU3.out.drew)
              generalize w'.drew = w3 at *
              clear g1 g2 g3 g4 g5 n1 n2 n3 n7 n8 n9 HF3 HU3 HF2 HU2 HD
              go_wp2_with fail
              go_roundw
              case rel =>
                refine ⟨k + 1, q + 1, by omega, by go_num, by go_num, Lib.hid (by have := HQ.out; omega), Lib.hid (HU4.out.set _ _), Lib.hid (HF4.out.put hq ?_)⟩
                rw [← HX.out]
                clear HX HF4 HU4
                split <;> split <;> omega
              case measure => (simp [intOf]; try omega)
        · go_wp2_with fail
          go_roundw
          case rel =>
            refine ⟨a + 1, q, by omega, by go_num, rfl, Lib.hid ?_, HU2, HF2⟩
            rw [HQ.out, show k = h.length + 1 by omega, Nat.add_mul a 1, Nat.one_mul]
          case measure => (simp [intOf]; try omega)
    · obtain rfl : a = s.length + 1 := by omega
      have hp1 : 1 ≤ p := by
        have h1 := HP.out
        rw [h1]
        exact Nat.mul_pos (by omega) (by omega)
      have hpN : p ≤ N := by rw [HP.out]; exact HL.out
      have hcell := HF1.out.cell (q := p - 1) (by omega)
      have HX : Hid ((dpAt signC s h (p - 1) : Nat) = lc signC s h) := Lib.hid (by rw [HP.out, dpAt_last])
      go_wp2_with fail
      go_ret
      rw [HX.out]
      exact ⟨rfl, HU1.out, by rw [← HP.out]; exact HF1.out⟩

end Go.Proofs.YthodoabppkeidaaGreatDoor
