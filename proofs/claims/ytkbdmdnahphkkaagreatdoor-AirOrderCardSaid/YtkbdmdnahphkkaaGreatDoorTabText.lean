/-
  Texts of rows: the closure that tells which characters may stand there, count with it, and validText of the program. Condition: the text is in memory.
-/
import Derived.Test.YtkbdmdnahphkkaaGreatDoorRefChars
namespace Go.Proofs.YtkbdmdnahphkkaaGreatDoor
open Go.RowKit
/-- The bytes of a row's text. -/
def tB (wh : Bool) (c : UInt8) : Bool := isM c || (wh && decide (c.toNat = 47))
/-- .. and the same of a rune. -/
def tR (wh : Bool) (r : Int) : Bool := (rngR 65 90 r || rngR 48 57 r) || (wh && decide (r = 47))
theorem tB_low {wh : Bool} {c : UInt8} (h : tB wh c = true) : c.toNat < 128 := by
  unfold tB isM isL isD at h
  simp at h
  omega
theorem tR_byte (wh : Bool) (c : UInt8) : tR wh c.toNat = tB wh c := by
  unfold tR tB isM
  rw [rng_isL, rng_isD]
  congr 2
  rw [Bool.eq_iff_iff]; simp; omega
theorem tR_high {wh : Bool} {r : Int} (h : 128 ≤ r) : tR wh r = false := by
  unfold tR rngR
  simp
  omega
def cntT (wh : Bool) (l : Bytes) : Nat := l.countP (tB wh)
theorem cntT_le (wh : Bool) (l : Bytes) : cntT wh l ≤ l.length := List.countP_le_length
theorem cntT_step (wh : Bool) (s : ByteArray) (pos : Nat) (h : pos < s.size) : cntT wh ((bs s).take (pos + 1)) = cntT wh ((bs s).take pos) + if tB wh s[pos] = true then 1 else 0 := by
  rw [take_on s pos h, cntT, List.countP_append]
  simp only [cntT, List.countP_cons, List.countP_nil, Nat.zero_add]
theorem cntT_high (wh : Bool) (s : ByteArray) (pos : Nat) : ∀ n, pos + n ≤ s.size → (∀ j, pos ≤ j → j < pos + n → ∀ (hj : j < s.size), 128 ≤ (s[j]'hj).toNat) →
    cntT wh ((bs s).take (pos + n)) = cntT wh ((bs s).take pos)
  | 0, _, _ => rfl
  | n + 1, hn, hb => by
    have ih := cntT_high wh s pos n (by omega) (fun j h1 h2 hj => hb j h1 (by omega) hj)
    have hs := cntT_step wh s (pos + n) (by omega)
    have h1 := hb (pos + n) (by omega) (by omega) (by omega)
    rw [if_neg (fun h => by have := tB_low h; omega)] at hs
    rw [← Nat.add_assoc, hs, ih, Nat.add_zero]
theorem cntT_on (wh : Bool) (s : ByteArray) (pos : Nat) (h : pos < s.size) :
    pos + (Utf8.decode s pos).2 ≤ s.size ∧
    (tR wh (Utf8.decode s pos).1 = true → cntT wh ((bs s).take (pos + (Utf8.decode s pos).2)) = cntT wh ((bs s).take pos) + 1) ∧
    (tR wh (Utf8.decode s pos).1 = false → cntT wh ((bs s).take (pos + (Utf8.decode s pos).2)) = cntT wh ((bs s).take pos)) := by
  by_cases ha : (s[pos]'h).toNat < 128
  · rw [decode_ascii s pos h ha]
    refine ⟨h, fun hr => ?_, fun hr => ?_⟩
    · rw [cntT_step wh s pos h, if_pos (by rw [← tR_byte]; exact hr)]
    · rw [cntT_step wh s pos h, if_neg (by rw [← tR_byte]; simp only at hr; rw [hr]; decide), Nat.add_zero]
  · obtain ⟨h1, h2⟩ := decode_skip s pos h (by omega)
    have h3 := (decode_high s pos h (by omega)).1
    refine ⟨h1, fun hr => ?_, fun hr => cntT_high wh s pos _ h1 h2⟩
    rw [tR_high (by omega)] at hr
    cases hr
theorem cntT_all (wh : Bool) (l : Bytes) : cntT wh l = l.length ↔ l.all (tB wh) = true := by
  unfold cntT
  rw [List.countP_eq_length, List.all_eq_true]
theorem air_known (r : Int) (wh : Bool) (b : Nat) (w : World) (hc : w.cell? ⟨b, 0, none⟩ = some (.bool wh)) :
    Calls Tryz.prog 119 #[.int .i32 r, .pointer (some ⟨b, 0, none⟩)] w fun e w' => e = .returned (.bool (tR wh r)) ∧ w = w' := by
  have HE : Hid (tR wh r = ((rngR 65 90 r || rngR 48 57 r) || (wh && decide (r = 47)))) := rfl
  go_enter Tryz.func119, Tryz.ntmps119
  go_wp2_with fail
  refine (air_isLetter r w).mono ?_
  rintro e w' ⟨rfl, rfl⟩
  cases h1 : rngR 65 90 r with
  | true =>
    rw [h1] at HE
    clear h1
    go_wp2_with fail
    go_ret
    exact ⟨by rw [HE.out]; rfl, rfl⟩
  | false =>
    rw [h1] at HE
    clear h1
    go_wp2_with fail
    refine (air_isDigit r w).mono ?_
    rintro e w' ⟨rfl, rfl⟩
    cases h2 : rngR 48 57 r with
    | true =>
      rw [h2] at HE
      clear h2
      go_wp2_with fail
      go_ret
      exact ⟨by rw [HE.out]; rfl, rfl⟩
    | false =>
      rw [h2] at HE
      clear h2
      cases wh with
      | false =>
        go_wp2_with fail
        go_ret
        exact ⟨by rw [HE.out]; rfl, rfl⟩
      | true =>
        by_cases h3 : r = 47
        · have hx : (r == 47) = true := by rw [h3]; rfl
          have HX := Lib.hid h3
          clear h3
          go_wp2_with fail
          go_ret
          exact ⟨by rw [HE.out, decide_eq_true HX.out]; rfl, rfl⟩
        · have hx : (r == 47) = false := by rw [beq_eq_false_iff_ne]; exact h3
          have HX := Lib.hid h3
          clear h3
          go_wp2_with fail
          go_ret
          exact ⟨by rw [HE.out, decide_eq_false HX.out]; rfl, rfl⟩
set_option maxHeartbeats 800000 in
theorem air_countT (s : ByteArray) (wh : Bool) (b : Nat) (w : World) (hc : w.cell? ⟨b, 0, none⟩ = some (.bool wh)) (hs : s.size ≤ 9223372036854775807) :
    Calls Tryz.prog 80 #[.string s, .func (.func 119) #[] #[.pointer (some ⟨b, 0, none⟩)]] w fun e w' => e = .returned (.int .i64 (cntT wh (bs s))) ∧ New w w' := by
  have HC := Lib.hid hc
  clear hc
  go_enter Tryz.func80, Tryz.ntmps80
  go_wp2_with fail
  go_loopw [5] (fun x wr => ∃ (pos : Nat), pos ≤ s.size ∧ x = .int .i64 (cntT wh ((bs s).take pos)) ∧ wr.heap[w.heap.size]? = some (.stringIter s pos) ∧ New w wr) (fun _ wr => s.size - wr.iterPos w.heap.size)
  case atStart => exact ⟨0, by omega, by simp [cntT], World.iter_heap w s 0, (New.refl w).alloc _⟩
  case round =>
    obtain ⟨pos, hp, rfl, hit, hnew⟩ := hrel
    have hc1 := cntT_le wh ((bs s).take pos)
    have hc2 : ((bs s).take pos).length ≤ pos := List.length_take_le _ _
    by_cases hlt : pos < s.size
    · have hnx : ∀ ty, (Instr.next (.pointer (some ⟨w.heap.size, 0, none⟩)) true ty).run Tryz.prog wr = _ := fun ty => Lib.run_next_any_at wr w.heap.size s pos ty hit hlt
      obtain ⟨h1, h2, h3⟩ := cntT_on wh s pos hlt
      have hd := decode_pos s pos hlt
      have hit2 := Lib.iterAt_heap wr w.heap.size s pos (pos + (Utf8.decode s pos).2) hit
      have hn2 : New w (wr.iterAt w.heap.size s (pos + (Utf8.decode s pos).2)) := Lib.below_iterAt hnew (Nat.le_refl _) s _
      have H2 := Lib.hid h2
      have H3 := Lib.hid h3
      have HCN := Lib.hid (hn2.cellOf HC.out)
      clear h2 h3
      go_wp2_with fail
      refine (air_known _ wh b _ HCN.out).mono ?_
      rintro e w' ⟨rfl, rfl⟩
      cases hr : tR wh (Utf8.decode s pos).1
      · go_wp2
        go_roundw
        case rel =>
          exact ⟨_, h1, by rw [H3.out hr], hit2, hn2⟩
        case measure => rw [iterPos_of hit2, iterPos_of hit]; omega
      · go_wp2
        go_roundw
        case rel =>
          exact ⟨_, h1, by rw [H2.out hr]; go_num, hit2, hn2⟩
        case measure => rw [iterPos_of hit2, iterPos_of hit]; omega
    · have hnx : ∀ ty, (Instr.next (.pointer (some ⟨w.heap.size, 0, none⟩)) true ty).run Tryz.prog wr = _ := fun ty => Lib.run_next_end_at wr w.heap.size s pos ty hit hlt
      have hfin : Hid (cntT wh ((bs s).take pos) = cntT wh (bs s)) := by rw [List.take_of_length_le (by rw [bs_size]; omega)]; rfl
      go_wp2
      go_ret
      exact ⟨ret_int (by rw [hfin.out]), hnew⟩
/-- Whether a text may stand in a row. -/
def textB (l : Bytes) (wh : Bool) : Bool := withinB l.length 1 16 && l.all (tB wh)
set_option maxHeartbeats 800000 in
theorem air_validText (s : ByteArray) (wh : Bool) (w : World) (hs : s.size ≤ 9223372036854775807) :
    Calls Tryz.prog 88 #[.string s, .bool wh] w fun e w' => e = .returned (.bool (textB (bs s) wh)) ∧ New w w' := by
  have hz := bs_size s
  have HE : Hid (textB (bs s) wh = (withinB s.size 1 16 && (bs s).all (tB wh))) := by
    have h : textB (bs s) wh = (withinB s.size 1 16 && (bs s).all (tB wh)) := by unfold textB; rw [hz]
    exact Lib.hid h
  have HA := Lib.hid (cntT_all wh (bs s))
  rw [hz] at HA
  clear hz
  have HN := Lib.hid ((New.refl w).alloc (.cells #[.bool wh] 4))
  have HCL : Hid ((w.alloc (.cells #[.bool wh] 4)).cell? ⟨w.heap.size, 0, none⟩ = some (.bool wh)) := by
    have h : (w.alloc (.cells #[.bool wh] 4)).cell? ⟨w.heap.size, 0, none⟩ = some (.bool wh) := by
      rw [cell_of_row _ _ 0 _ _ _ (heap_alloc_new w _)]; rfl
    exact Lib.hid h
  go_enter Tryz.func88, Tryz.ntmps88
  go_wp2_with fail
  refine (air_within _ _ _ _).mono ?_
  rintro e w' ⟨rfl, rfl⟩
  cases h1 : withinB s.size 1 16 with
  | false =>
    rw [h1] at HE
    clear h1
    go_wp2_with fail
    go_ret
    exact ⟨by rw [HE.out]; rfl, HN.out⟩
  | true =>
    rw [h1, Bool.true_and] at HE
    clear h1
    go_wp2_with fail
    refine (air_countT s wh _ _ HCL.out hs).mono ?_
    rintro e w1 ⟨rfl, h1⟩
    have hle := cntT_le wh (bs s)
    rw [bs_size] at hle
    by_cases hq : cntT wh (bs s) = s.size
    · have HT := Lib.hid (HA.out.1 hq)
      have hx : ((cntT wh (bs s) : Int) == (s.size : Int)) = true := by rw [beq_iff_eq]; omega
      clear hq
      go_wp2_with fail
      go_ret
      exact ⟨by rw [HE.out, HT.out]; rfl, HN.out.trans h1⟩
    · have HT : Hid ((bs s).all (tB wh) = false) := by
        have h : (bs s).all (tB wh) = false := by
          cases hb : (bs s).all (tB wh) with
          | false => rfl
          | true => exact absurd (HA.out.2 hb) hq
        exact Lib.hid h
      have hx : ((cntT wh (bs s) : Int) == (s.size : Int)) = false := by rw [beq_eq_false_iff_ne]; omega
      clear hq
      go_wp2_with fail
      go_ret
      exact ⟨by rw [HE.out, HT.out]; rfl, HN.out.trans h1⟩

end Go.Proofs.YtkbdmdnahphkkaaGreatDoor
