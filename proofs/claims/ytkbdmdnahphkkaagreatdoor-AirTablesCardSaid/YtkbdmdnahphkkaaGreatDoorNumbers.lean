/-
  readNumber of the program: the number of a text of digits, for every text in memory.
-/
import Derived.Test.YtkbdmdnahphkkaaGreatDoorPrints
namespace Go.Proofs.YtkbdmdnahphkkaaGreatDoor
open Go.RowKit
/-- The number of digits, or none where a byte is no digit or a number on the way is above most. -/
def readL (most : Nat) : Nat → Bytes → Option Nat
  | n, [] => some n
  | n, c :: l => if 48 ≤ c.toNat ∧ c.toNat ≤ 57 then (if most < n * 10 + (c.toNat - 48) then none else readL most (n * 10 + (c.toNat - 48)) l) else none
def numO (most : Nat) (l : Bytes) : Option Nat := if l = [] then none else readL most 0 l
theorem drop_at (s : ByteArray) (pos : Nat) (h : pos < s.size) : (bs s).drop pos = s[pos] :: (bs s).drop (pos + 1) := by
  rw [List.drop_eq_getElem_cons (by rw [bs_size]; exact h)]
  congr 1
/-- One rune on. -/
theorem read_on_digit (most n : Nat) (s : ByteArray) (pos : Nat) (h : pos < s.size) :
    (rngR 48 57 (Utf8.decode s pos).1 = true → ∃ d : Nat, d ≤ 9 ∧ (Utf8.decode s pos).1 = ((48 + d : Nat) : Int) ∧ (Utf8.decode s pos).2 = 1 ∧
      readL most n ((bs s).drop pos) = if most < n * 10 + d then none else readL most (n * 10 + d) ((bs s).drop (pos + 1))) ∧
    (rngR 48 57 (Utf8.decode s pos).1 = false → readL most n ((bs s).drop pos) = none) := by
  rw [drop_at s pos h, readL]
  by_cases ha : (s[pos]'h).toNat < 128
  · rw [decode_ascii s pos h ha]
    refine ⟨fun hr => ?_, fun hr => ?_⟩
    · simp [rngR] at hr
      refine ⟨(s[pos]'h).toNat - 48, by omega, ?_, rfl, ?_⟩
      · simp only; omega
      · rw [if_pos (by omega)]
    · simp [rngR] at hr
      rw [if_neg (by omega)]
  · have h3 := (decode_high s pos h (by omega)).1
    refine ⟨fun hr => ?_, fun hr => ?_⟩
    · simp [rngR] at hr
      omega
    · rw [if_neg (by omega)]
theorem air_readNumber (s : ByteArray) (most : Nat) (w : World) (hs : s.size ≤ 9223372036854775807) (hm : most ≤ 1000000) :
    Calls Tryz.prog 56 #[.string s, .int .i64 most] w fun e w' => e = .returned (.tuple #[.int .i64 ((numO most (bs s)).getD 0 : Nat), .bool (numO most (bs s)).isSome]) ∧ New w w' := by
  have hz := bs_size s
  go_enter Tryz.func56, Tryz.ntmps56
  have hne : ¬ s.size = 0 → s.toList.isEmpty = false := by
    intro h0
    rw [Lib.toList_data, List.isEmpty_eq_false_iff]
    intro h; apply h0; rw [← hz]; unfold bs; rw [h]; rfl
  have HO : Hid (¬ s.size = 0 → numO most (bs s) = readL most 0 (bs s)) := by
    intro h0
    unfold numO
    rw [if_neg]
    intro h; apply h0; rw [← hz, h]; rfl
  have HNE := Lib.hid hne
  clear hne
  go_wp2_with fail
  go_loopw [6] (fun x wr => ∃ (pos n : Nat), pos ≤ s.size ∧ x = .int .i64 n ∧ n ≤ most ∧ readL most 0 (bs s) = readL most n ((bs s).drop pos) ∧ wr.heap[w.heap.size]? = some (.stringIter s pos) ∧ New w wr) (fun _ wr => s.size - wr.iterPos w.heap.size)
  case atStart => exact ⟨0, 0, by omega, rfl, by omega, by simp, World.iter_heap w s 0, (New.refl w).alloc _⟩
  case round =>
    obtain ⟨pos, n, hp, rfl, hn, hread, hit, hnew⟩ := hrel
    have HR := Lib.hid hread
    clear hread
    by_cases hlt : pos < s.size
    · have hnx : ∀ ty, (Instr.next (.pointer (some ⟨w.heap.size, 0, none⟩)) true ty).run Tryz.prog wr = _ := fun ty => Lib.run_next_any_at wr w.heap.size s pos ty hit hlt
      obtain ⟨h1, h2⟩ := read_on_digit most n s pos hlt
      have hd := decode_pos s pos hlt
      have hit2 := Lib.iterAt_heap wr w.heap.size s pos (pos + (Utf8.decode s pos).2) hit
      have hn2 := Lib.below_iterAt hnew (Nat.le_refl _) s (pos + (Utf8.decode s pos).2)
      have H1 := Lib.hid h1
      have H2 := Lib.hid h2
      clear h1 h2
      go_wp2_with fail
      refine (air_isDigit _ _).mono ?_
      rintro e w' ⟨rfl, rfl⟩
      cases hr : rngR 48 57 (Utf8.decode s pos).1
      · have HE := Lib.hid (HR.out.trans (H2.out hr))
        go_wp2_with fail
        refine bodyPost_ret (v := .tuple #[.int .i64 0, .bool false]) (by simp [results, Tryz.results56, go_sem]) rfl ⟨by rw [HO.out (by omega), HE.out]; rfl, hn2⟩
      · obtain ⟨d, hd9, hdec, hone, hstep⟩ := H1.out hr
        have HS := Lib.hid hstep
        clear hstep hr
        rw [hdec]
        have hit3 := Lib.iterAt_heap wr w.heap.size s pos (pos + 1) hit
        have hn3 : New w (wr.iterAt w.heap.size s (pos + 1)) := Lib.below_iterAt hnew (Nat.le_refl _) s _
        have hnn : (n : Int) * 10 + (48 + (d : Int) - 48) = ((n * 10 + d : Nat) : Int) := by omega
        have HNN := Lib.hid hnn
        clear hit2 hn2 hnn
        by_cases hmo : most < n * 10 + d
        · go_wp2_with fail
          refine bodyPost_ret (v := .tuple #[.int .i64 0, .bool false]) (by simp [results, Tryz.results56, go_sem]) rfl ⟨by rw [HO.out (by omega), HR.out, HS.out, if_pos hmo]; rfl, hn3⟩
        · go_wp2_with fail
          refine ⟨⟨pos + 1, n * 10 + d, by omega, by rw [HNN.out], by omega, by rw [HR.out, HS.out, if_neg hmo], hit3, hn3⟩, by rw [iterPos_of hit3, iterPos_of hit]; omega⟩
    · have hnx : ∀ ty, (Instr.next (.pointer (some ⟨w.heap.size, 0, none⟩)) true ty).run Tryz.prog wr = _ := fun ty => Lib.run_next_end_at wr w.heap.size s pos ty hit hlt
      have HE : Hid (readL most 0 (bs s) = some n) := by
        rw [HR.out, List.drop_eq_nil_of_le (by omega)]; rfl
      by_cases h0 : s.size = 0
      · have h1 : bs s = [] := List.eq_nil_of_length_eq_zero (by rw [hz, h0])
        have h2 : s.toList.isEmpty = true := by rw [Lib.toList_data]; unfold bs at h1; rw [h1]; rfl
        have h3 : n = 0 := by
          have := HE.out
          rw [h1] at this
          simp [readL] at this
          exact this.symm
        have H1 := Lib.hid h1
        clear h1
        subst h3
        go_wp2_with fail
        refine bodyPost_ret (v := .tuple #[.int .i64 0, .bool false]) (by simp [results, Tryz.results56, go_sem]) rfl ⟨by rw [H1.out]; rfl, hnew⟩
      · have h2 := HNE.out h0
        go_wp2_with fail
        refine bodyPost_ret (v := .tuple #[.int .i64 n, .bool true]) (by simp [results, Tryz.results56, go_sem]) rfl ⟨by rw [HO.out h0, HE.out]; rfl, hnew⟩

end Go.Proofs.YtkbdmdnahphkkaaGreatDoor
