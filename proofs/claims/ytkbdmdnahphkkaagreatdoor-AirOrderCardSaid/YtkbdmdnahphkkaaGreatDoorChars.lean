/-
  Characters, words, areas and bases: what count, isWord, isArea, isFigure, isStroke and readBase of the program answer, for every text. No condition but that the text is in memory.
-/
import Derived.Test.YtkbdmdnahphkkaaGreatDoorBands
import Derived.Test.YtkbdmdnahphkkaaGreatDoorText
import Derived.Deep.RegionHeld3
namespace Go.Proofs.YtkbdmdnahphkkaaGreatDoor
open Go.RowKit

def rngR (lo hi : Int) (r : Int) : Bool := decide (lo ≤ r) && decide (r ≤ hi)
set_option maxHeartbeats 400000 in
theorem air_isDigit (r : Int) (w : World) :
    Calls Tryz.prog 81 #[.int .i32 r] w fun e w' => e = .returned (.bool (rngR 48 57 r)) ∧ w = w' := by
  go_enter Tryz.func81, Tryz.ntmps81
  go_wp2
  all_goals
    go_ret
    exact ⟨ret_bool (by simp [rngR]; omega), rfl⟩
set_option maxHeartbeats 400000 in
theorem air_isLetter (r : Int) (w : World) :
    Calls Tryz.prog 111 #[.int .i32 r] w fun e w' => e = .returned (.bool (rngR 65 90 r)) ∧ w = w' := by
  go_enter Tryz.func111, Tryz.ntmps111
  go_wp2
  all_goals
    go_ret
    exact ⟨ret_bool (by simp [rngR]; omega), rfl⟩
theorem decode_pos (s : ByteArray) (pos : Nat) (h : pos < s.size) : 1 ≤ (Utf8.decode s pos).2 := by
  by_cases ha : (s[pos]'h).toNat < 128
  · rw [decode_ascii s pos h ha]
    exact Nat.le_refl _
  · exact (decode_high s pos h (by omega)).2
/-- One rune on: the count and the place. -/
theorem cnt_on {lo hi : Nat} (hhi : hi < 128) (s : ByteArray) (pos : Nat) (h : pos < s.size) :
    pos + (Utf8.decode s pos).2 ≤ s.size ∧
    (rngR lo hi (Utf8.decode s pos).1 = true → cntB lo hi ((bs s).take (pos + (Utf8.decode s pos).2)) = cntB lo hi ((bs s).take pos) + 1) ∧
    (rngR lo hi (Utf8.decode s pos).1 = false → cntB lo hi ((bs s).take (pos + (Utf8.decode s pos).2)) = cntB lo hi ((bs s).take pos)) := by
  by_cases ha : (s[pos]'h).toNat < 128
  · rw [decode_ascii s pos h ha]
    refine ⟨h, fun hr => ?_, fun hr => ?_⟩
    · simp [rngR] at hr
      rw [cntB_step s pos h, if_pos (by omega)]
    · simp [rngR] at hr
      rw [cntB_step s pos h, if_neg (by omega), Nat.add_zero]
  · obtain ⟨h1, h2⟩ := decode_skip s pos h (by omega)
    have h3 := (decode_high s pos h (by omega)).1
    refine ⟨h1, fun hr => ?_, fun hr => cntB_high hhi s pos _ h1 h2⟩
    simp [rngR] at hr
    omega
set_option maxHeartbeats 800000 in
theorem air_countL (s : ByteArray) (w : World) (hs : s.size ≤ 9223372036854775807) :
    Calls Tryz.prog 80 #[.string s, .func (.func 111) #[] #[]] w fun e w' => e = .returned (.int .i64 (cntB 65 90 (bs s))) ∧ New w w' := by
  go_enter Tryz.func80, Tryz.ntmps80
  go_wp2_with fail
  go_loopw [5] (fun x wr => ∃ (pos : Nat), pos ≤ s.size ∧ x = .int .i64 (cntB 65 90 ((bs s).take pos)) ∧ wr.heap[w.heap.size]? = some (.stringIter s pos) ∧ New w wr) (fun _ wr => s.size - wr.iterPos w.heap.size)
  case atStart => exact ⟨0, by omega, by simp [cntB], World.iter_heap w s 0, (New.refl w).alloc _⟩
  case round =>
    obtain ⟨pos, hp, rfl, hit, hnew⟩ := hrel
    have hc := cntB_le 65 90 ((bs s).take pos)
    have hc2 : ((bs s).take pos).length ≤ pos := List.length_take_le _ _
    by_cases hlt : pos < s.size
    · have hnx : ∀ ty, (Instr.next (.pointer (some ⟨w.heap.size, 0, none⟩)) true ty).run Tryz.prog wr = _ := fun ty => Lib.run_next_any_at wr w.heap.size s pos ty hit hlt
      obtain ⟨h1, h2, h3⟩ := cnt_on (lo := 65) (hi := 90) (by omega) s pos hlt
      have hd := decode_pos s pos hlt
      have hit2 := Lib.iterAt_heap wr w.heap.size s pos (pos + (Utf8.decode s pos).2) hit
      have hn2 : New w (wr.iterAt w.heap.size s (pos + (Utf8.decode s pos).2)) := Lib.below_iterAt hnew (Nat.le_refl _) s _
      have H2 := Lib.hid h2
      have H3 := Lib.hid h3
      clear h2 h3
      go_wp2_with fail
      refine (air_isLetter _ _).mono ?_
      rintro e w' ⟨rfl, rfl⟩
      cases hr : rngR 65 90 (Utf8.decode s pos).1
      · go_wp2
        go_roundw
        case rel =>
          exact ⟨_, h1, by rw [H3.out hr], hit2, hn2⟩
        case measure => rw [iterPos_of hit2, iterPos_of hit]; omega
      · go_wp2
        go_roundw
        case rel =>
          exact ⟨_, h1, by rw [H2.out hr]; go_num, hit2, hn2⟩
        case measure => rw [iterPos_of hit2, iterPos_of hit]; omega
    · have hnx : ∀ ty, (Instr.next (.pointer (some ⟨w.heap.size, 0, none⟩)) true ty).run Tryz.prog wr = _ := fun ty => Lib.run_next_end_at wr w.heap.size s pos ty hit hlt
      have hfin : Hid (cntB 65 90 ((bs s).take pos) = cntB 65 90 (bs s)) := by rw [List.take_of_length_le (by rw [bs_size]; omega)]; rfl
      go_wp2
      go_ret
      exact ⟨ret_int (by rw [hfin.out]), hnew⟩
set_option maxHeartbeats 800000 in
theorem air_countD (s : ByteArray) (w : World) (hs : s.size ≤ 9223372036854775807) :
    Calls Tryz.prog 80 #[.string s, .func (.func 81) #[] #[]] w fun e w' => e = .returned (.int .i64 (cntB 48 57 (bs s))) ∧ New w w' := by
  go_enter Tryz.func80, Tryz.ntmps80
  go_wp2_with fail
  go_loopw [5] (fun x wr => ∃ (pos : Nat), pos ≤ s.size ∧ x = .int .i64 (cntB 48 57 ((bs s).take pos)) ∧ wr.heap[w.heap.size]? = some (.stringIter s pos) ∧ New w wr) (fun _ wr => s.size - wr.iterPos w.heap.size)
  case atStart => exact ⟨0, by omega, by simp [cntB], World.iter_heap w s 0, (New.refl w).alloc _⟩
  case round =>
    obtain ⟨pos, hp, rfl, hit, hnew⟩ := hrel
    have hc := cntB_le 48 57 ((bs s).take pos)
    have hc2 : ((bs s).take pos).length ≤ pos := List.length_take_le _ _
    by_cases hlt : pos < s.size
    · have hnx : ∀ ty, (Instr.next (.pointer (some ⟨w.heap.size, 0, none⟩)) true ty).run Tryz.prog wr = _ := fun ty => Lib.run_next_any_at wr w.heap.size s pos ty hit hlt
      obtain ⟨h1, h2, h3⟩ := cnt_on (lo := 48) (hi := 57) (by omega) s pos hlt
      have hd := decode_pos s pos hlt
      have hit2 := Lib.iterAt_heap wr w.heap.size s pos (pos + (Utf8.decode s pos).2) hit
      have hn2 : New w (wr.iterAt w.heap.size s (pos + (Utf8.decode s pos).2)) := Lib.below_iterAt hnew (Nat.le_refl _) s _
      have H2 := Lib.hid h2
      have H3 := Lib.hid h3
      clear h2 h3
      go_wp2_with fail
      refine (air_isDigit _ _).mono ?_
      rintro e w' ⟨rfl, rfl⟩
      cases hr : rngR 48 57 (Utf8.decode s pos).1
      · go_wp2
        go_roundw
        case rel =>
          exact ⟨_, h1, by rw [H3.out hr], hit2, hn2⟩
        case measure => rw [iterPos_of hit2, iterPos_of hit]; omega
      · go_wp2
        go_roundw
        case rel =>
          exact ⟨_, h1, by rw [H2.out hr]; go_num, hit2, hn2⟩
        case measure => rw [iterPos_of hit2, iterPos_of hit]; omega
    · have hnx : ∀ ty, (Instr.next (.pointer (some ⟨w.heap.size, 0, none⟩)) true ty).run Tryz.prog wr = _ := fun ty => Lib.run_next_end_at wr w.heap.size s pos ty hit hlt
      have hfin : Hid (cntB 48 57 ((bs s).take pos) = cntB 48 57 (bs s)) := by rw [List.take_of_length_le (by rw [bs_size]; omega)]; rfl
      go_wp2
      go_ret
      exact ⟨ret_int (by rw [hfin.out]), hnew⟩

def wordB (l : Bytes) : Bool := decide (1 ≤ l.length ∧ l.length ≤ 4) && decide (cntB 65 90 l = l.length)
def areaB (l : Bytes) : Bool := decide (l.length ≤ 4) && decide (0 < cntB 65 90 l) && decide (cntB 65 90 l + cntB 48 57 l = l.length)
def figB (l : Bytes) : Bool := decide (l.length = 1) && decide (cntB 48 57 l = 1)
def strokeB (l : Bytes) : Bool := wordB l || figB l
set_option maxHeartbeats 800000 in
theorem air_isWord (s : ByteArray) (w : World) (hs : s.size ≤ 9223372036854775807) :
    Calls Tryz.prog 110 #[.string s] w fun e w' => e = .returned (.bool (wordB (bs s))) ∧ New w w' := by
  go_enter Tryz.func110, Tryz.ntmps110
  go_wp2_with fail
  refine (air_within _ _ _ _).mono ?_
  rintro e w' ⟨rfl, rfl⟩
  have hz := bs_size s
  cases h : withinB s.size 1 4
  · have h' : ¬ (1 ≤ s.size ∧ s.size ≤ 4) := fun hh => by rw [withinB_t (by omega)] at h; cases h
    go_wp2
    go_ret
    exact ⟨ret_bool (by simp [wordB, hz, h']), New.refl _⟩
  · have h' := withinB_iff.1 h
    have hc := cntB_le 65 90 (bs s)
    rw [hz] at hc
    go_wp2_with fail
    refine (air_countL s _ hs).mono ?_
    rintro e w1 ⟨rfl, h1⟩
    go_wp2
    go_ret
    refine ⟨ret_bool ?_, h1⟩
    simp only [wordB, hz]
    rw [decide_eq_true (by omega : 1 ≤ s.size ∧ s.size ≤ 4), Bool.true_and]
    by_cases hq : cntB 65 90 (bs s) = s.size
    · simp [hq]
    · simp [hq]; omega

set_option maxHeartbeats 800000 in
theorem air_isFigure (s : ByteArray) (w : World) (hs : s.size ≤ 9223372036854775807) :
    Calls Tryz.prog 51 #[.string s] w fun e w' => e = .returned (.bool (figB (bs s))) ∧ New w w' := by
  have hz := bs_size s
  by_cases h : s.size = 1
  · have hq : ((s.size : Int) == 1) = true := by rw [beq_iff_eq]; omega
    have HH := Lib.hid h
    clear h
    go_enter Tryz.func51, Tryz.ntmps51
    go_wp2_with fail
    refine (air_countD s _ hs).mono ?_
    rintro e w1 ⟨rfl, h1⟩
    go_wp2
    go_ret
    refine ⟨ret_bool ?_, h1⟩
    simp only [figB, hz, HH.out, decide_true, Bool.true_and]
    by_cases hq : cntB 48 57 (bs s) = 1
    · simp [hq]
    · simp [hq]; omega
  · have hq : ((s.size : Int) == 1) = false := by rw [beq_eq_false_iff_ne]; omega
    go_enter Tryz.func51, Tryz.ntmps51
    go_wp2
    go_ret
    exact ⟨ret_bool (by simp [figB, hz, h]), New.refl _⟩
set_option maxHeartbeats 800000 in
theorem air_isStroke (s : ByteArray) (w : World) (hs : s.size ≤ 9223372036854775807) :
    Calls Tryz.prog 78 #[.string s] w fun e w' => e = .returned (.bool (strokeB (bs s))) ∧ New w w' := by
  go_enter Tryz.func78, Tryz.ntmps78
  go_wp2_with fail
  refine (air_isWord s _ hs).mono ?_
  rintro e w1 ⟨rfl, h1⟩
  cases h : wordB (bs s)
  · have HH := Lib.hid h
    clear h
    go_wp2_with fail
    refine (air_isFigure s _ hs).mono ?_
    rintro e w2 ⟨rfl, h2⟩
    go_wp2
    go_ret
    exact ⟨ret_bool (by simp [strokeB, HH.out]), h1.trans h2⟩
  · have HH := Lib.hid h
    clear h
    go_wp2
    go_ret
    exact ⟨ret_bool (by simp [strokeB, HH.out]), h1⟩
set_option maxHeartbeats 800000 in
theorem air_isArea (s : ByteArray) (w : World) (hs : s.size ≤ 9223372036854775807) :
    Calls Tryz.prog 76 #[.string s] w fun e w' => e = .returned (.bool (areaB (bs s))) ∧ New w w' := by
  have hz := bs_size s
  have hc := cntB_le 65 90 (bs s)
  have hc2 := cntB_le 48 57 (bs s)
  rw [hz] at hc hc2
  go_enter Tryz.func76, Tryz.ntmps76
  go_wp2_with fail
  refine (air_countL s _ hs).mono ?_
  rintro e w1 ⟨rfl, h1⟩
  by_cases h4 : s.size ≤ 4
  · by_cases h0 : 0 < cntB 65 90 (bs s)
    · go_wp2_with fail
      refine (air_countD s _ hs).mono ?_
      rintro e w2 ⟨rfl, h2⟩
      go_wp2
      go_ret
      refine ⟨ret_bool ?_, h1.trans h2⟩
      simp only [areaB, hz]
      rw [decide_eq_true h4, decide_eq_true h0]
      by_cases hq : cntB 65 90 (bs s) + cntB 48 57 (bs s) = s.size
      · simp [hq]; omega
      · simp [hq]; omega
    · go_wp2
      go_ret
      exact ⟨ret_bool (by simp [areaB, h0]), h1⟩
  · go_wp2
    go_ret
    exact ⟨ret_bool (by simp [areaB, hz, h4]), h1⟩

end Go.Proofs.YtkbdmdnahphkkaaGreatDoor
