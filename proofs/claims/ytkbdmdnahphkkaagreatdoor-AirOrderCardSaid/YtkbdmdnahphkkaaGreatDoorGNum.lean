/-
  Numbers, Times, Decimal, Nums, TimeBack, RefText. What is proved in each, and on what conditions, its own head says.
-/
import Derived.Test.YtkbdmdnahphkkaaGreatDoorPrints
import Derived.OwnWalk
/-
  readNumber of the program: the number of a text of digits, for every text in memory.
-/
namespace Go.Proofs.YtkbdmdnahphkkaaGreatDoor
open Go.RowKit
/-- The number of digits, or none where a byte is no digit or a number on the way is above most. -/
def readL (most : Nat) : Nat → Bytes → Option Nat
  | n, [] => some n
  | n, c :: l => if 48 ≤ c.toNat ∧ c.toNat ≤ 57 then (if most < n * 10 + (c.toNat - 48) then none else readL most (n * 10 + (c.toNat - 48)) l) else none
def numO (most : Nat) (l : Bytes) : Option Nat := if l = [] then none else readL most 0 l
theorem drop_at (s : ByteArray) (pos : Nat) (h : pos < s.size) : (bs s).drop pos = s[pos] :: (bs s).drop (pos + 1) := by
  rw [List.drop_eq_getElem_cons (by rw [bs_size]; exact h)]
  congr 1
/-- One rune on. -/
theorem read_on_digit (most n : Nat) (s : ByteArray) (pos : Nat) (h : pos < s.size) :
    (rngR 48 57 (Utf8.decode s pos).1 = true → ∃ d : Nat, d ≤ 9 ∧ (Utf8.decode s pos).1 = ((48 + d : Nat) : Int) ∧ (Utf8.decode s pos).2 = 1 ∧
      readL most n ((bs s).drop pos) = if most < n * 10 + d then none else readL most (n * 10 + d) ((bs s).drop (pos + 1))) ∧
    (rngR 48 57 (Utf8.decode s pos).1 = false → readL most n ((bs s).drop pos) = none) := by
  rw [drop_at s pos h, readL]
  by_cases ha : (s[pos]'h).toNat < 128
  · rw [decode_ascii s pos h ha]
    refine ⟨fun hr => ?_, fun hr => ?_⟩
    · simp [rngR] at hr
      refine ⟨(s[pos]'h).toNat - 48, by omega, ?_, rfl, ?_⟩
      · simp only; omega
      · rw [if_pos (by omega)]
    · simp [rngR] at hr
      rw [if_neg (by omega)]
  · have h3 := (decode_high s pos h (by omega)).1
    refine ⟨fun hr => ?_, fun hr => ?_⟩
    · simp [rngR] at hr
      omega
    · rw [if_neg (by omega)]
theorem air_readNumber (s : ByteArray) (most : Nat) (w : World) (hs : s.size ≤ 9223372036854775807) (hm : most ≤ 1000000) :
    Calls Tryz.prog 56 #[.string s, .int .i64 most] w fun e w' => e = .returned (.tuple #[.int .i64 ((numO most (bs s)).getD 0 : Nat), .bool (numO most (bs s)).isSome]) ∧ New w w' := by
  have hz := bs_size s
  go_enter Tryz.func56, Tryz.ntmps56
  have hne : ¬ s.size = 0 → s.toList.isEmpty = false := by
    intro h0
    rw [Lib.toList_data, List.isEmpty_eq_false_iff]
    intro h; apply h0; rw [← hz]; unfold bs; rw [h]; rfl
  have HO : Hid (¬ s.size = 0 → numO most (bs s) = readL most 0 (bs s)) := by
    intro h0
    unfold numO
    rw [if_neg]
    intro h; apply h0; rw [← hz, h]; rfl
  have HNE := Lib.hid hne
  clear hne
  go_wp2_with fail
  go_loopw [6] (fun x wr => ∃ (pos n : Nat), pos ≤ s.size ∧ x = .int .i64 n ∧ n ≤ most ∧ readL most 0 (bs s) = readL most n ((bs s).drop pos) ∧ wr.heap[w.heap.size]? = some (.stringIter s pos) ∧ New w wr) (fun _ wr => s.size - wr.iterPos w.heap.size)
  case atStart => exact ⟨0, 0, by omega, rfl, by omega, by simp, World.iter_heap w s 0, (New.refl w).alloc _⟩
  case round =>
    obtain ⟨pos, n, hp, rfl, hn, hread, hit, hnew⟩ := hrel
    have HR := Lib.hid hread
    clear hread
    by_cases hlt : pos < s.size
    · have hnx : ∀ ty, (Instr.next (.pointer (some ⟨w.heap.size, 0, none⟩)) true ty).run Tryz.prog wr = _ := fun ty => Lib.run_next_any_at wr w.heap.size s pos ty hit hlt
      obtain ⟨h1, h2⟩ := read_on_digit most n s pos hlt
      have hd := decode_pos s pos hlt
      have hit2 := Lib.iterAt_heap wr w.heap.size s pos (pos + (Utf8.decode s pos).2) hit
      have hn2 := Lib.below_iterAt hnew (Nat.le_refl _) s (pos + (Utf8.decode s pos).2)
      have H1 := Lib.hid h1
      have H2 := Lib.hid h2
      clear h1 h2
      go_wp2_with fail
      refine (air_isDigit _ _).mono ?_
      rintro e w' ⟨rfl, rfl⟩
      cases hr : rngR 48 57 (Utf8.decode s pos).1
      · have HE := Lib.hid (HR.out.trans (H2.out hr))
        go_wp2_with fail
        refine bodyPost_ret (v := .tuple #[.int .i64 0, .bool false]) (by simp [results, Tryz.results56, go_sem]) rfl ⟨by rw [HO.out (by omega), HE.out]; rfl, hn2⟩
      · obtain ⟨d, hd9, hdec, hone, hstep⟩ := H1.out hr
        have HS := Lib.hid hstep
        clear hstep hr
        rw [hdec]
        have hit3 := Lib.iterAt_heap wr w.heap.size s pos (pos + 1) hit
        have hn3 : New w (wr.iterAt w.heap.size s (pos + 1)) := Lib.below_iterAt hnew (Nat.le_refl _) s _
        have hnn : (n : Int) * 10 + (48 + (d : Int) - 48) = ((n * 10 + d : Nat) : Int) := by omega
        have HNN := Lib.hid hnn
        clear hit2 hn2 hnn
        by_cases hmo : most < n * 10 + d
        · go_wp2_with fail
          refine bodyPost_ret (v := .tuple #[.int .i64 0, .bool false]) (by simp [results, Tryz.results56, go_sem]) rfl ⟨by rw [HO.out (by omega), HR.out, HS.out, if_pos hmo]; rfl, hn3⟩
        · go_wp2_with fail
          refine ⟨⟨pos + 1, n * 10 + d, by omega, by rw [HNN.out], by omega, by rw [HR.out, HS.out, if_neg hmo], hit3, hn3⟩, by rw [iterPos_of hit3, iterPos_of hit]; omega⟩
    · have hnx : ∀ ty, (Instr.next (.pointer (some ⟨w.heap.size, 0, none⟩)) true ty).run Tryz.prog wr = _ := fun ty => Lib.run_next_end_at wr w.heap.size s pos ty hit hlt
      have HE : Hid (readL most 0 (bs s) = some n) := by
        rw [HR.out, List.drop_eq_nil_of_le (by omega)]; rfl
      by_cases h0 : s.size = 0
      · have h1 : bs s = [] := List.eq_nil_of_length_eq_zero (by rw [hz, h0])
        have h2 : s.toList.isEmpty = true := by rw [Lib.toList_data]; unfold bs at h1; rw [h1]; rfl
        have h3 : n = 0 := by
          have := HE.out
          rw [h1] at this
          simp [readL] at this
          exact this.symm
        have H1 := Lib.hid h1
        clear h1
        subst h3
        go_wp2_with fail
        refine bodyPost_ret (v := .tuple #[.int .i64 0, .bool false]) (by simp [results, Tryz.results56, go_sem]) rfl ⟨by rw [H1.out]; rfl, hnew⟩
      · have h2 := HNE.out h0
        go_wp2_with fail
        refine bodyPost_ret (v := .tuple #[.int .i64 n, .bool true]) (by simp [results, Tryz.results56, go_sem]) rfl ⟨by rw [HO.out h0, HE.out]; rfl, hnew⟩

end Go.Proofs.YtkbdmdnahphkkaaGreatDoor

/-
  ParseTime of the program, for every text of less than 2 to the power of 32 bytes in a world that has the library's variable MaxLen.
-/
namespace Go.Proofs.YtkbdmdnahphkkaaGreatDoor
open Go.RowKit
/-- The minute of a text, or none, in the program's words. -/
def minuteI (d c : Nat) : Int := ((d : Int) - 1) * 1440 + (c : Int) / 100 * 60 + (c : Int) % 100
def parseV (l : Bytes) : Option Int :=
  match numO 14 (Lib.cut l [32]).1, numO 2359 (Lib.cut l [32]).2.1 with
  | some d, some c => if timeV (minuteI d c) = some l then some (minuteI d c) else none
  | _, _ => none
def errO (e : Int) : Option Int → Int
  | some _ => 0
  | none => e
theorem readL_le {most : Nat} : ∀ {l : Bytes} {n m : Nat}, n ≤ most → readL most n l = some m → m ≤ most
  | [], n, m, h, e => by rw [readL] at e; cases e; exact h
  | c :: l, n, m, h, e => by
    rw [readL] at e
    split at e
    · split at e
      · cases e
      · exact readL_le (by omega) e
    · cases e
theorem numO_le {most : Nat} {l : Bytes} {m : Nat} (e : numO most l = some m) : m ≤ most := by
  unfold numO at e
  split at e
  · cases e
  · exact readL_le (Nat.zero_le _) e
theorem cut_le (l c : Bytes) : (Lib.cut l c).1.length ≤ l.length ∧ (Lib.cut l c).2.1.length ≤ l.length := by
  unfold Lib.cut
  split
  · simp only [List.length_take, List.length_drop]; omega
  · simp
theorem air_ParseTime (s : ByteArray) (w : World) (hm : HasMax w) (hs : s.size < 4294967281) :
    Calls Tryz.prog 26 #[.string s] w fun e w' => e = .returned (.tuple #[.int .i64 ((parseV (bs s)).getD 0), .int .i64 (errO 13 (parseV (bs s)))]) ∧ New w w' := by
  have hz := bs_size s
  obtain ⟨m, hm⟩ := hm
  go_enter Tryz.func26, Tryz.ntmps26
  go_wp2_with fail
  refine (Tryz.strings_Cut s ⟨#[32]⟩ m w hs hm).mono ?_
  rintro e w1 ⟨rfl, k, rfl⟩
  have e1 : (⟨(Lib.cut s.data.toList (⟨#[32]⟩ : ByteArray).data.toList).1.toArray⟩ : ByteArray) = B (Lib.cut (bs s) [32]).1 := rfl
  have e2 : (⟨(Lib.cut s.data.toList (⟨#[32]⟩ : ByteArray).data.toList).2.1.toArray⟩ : ByteArray) = B (Lib.cut (bs s) [32]).2.1 := rfl
  rw [e1, e2]
  generalize (Lib.cut s.data.toList (⟨#[32]⟩ : ByteArray).data.toList).2.2 = fnd at *
  have hcl := cut_le (bs s) [32]
  have HV : Hid (parseV (bs s) = match numO 14 (Lib.cut (bs s) [32]).1, numO 2359 (Lib.cut (bs s) [32]).2.1 with
    | some d, some c => if timeV (minuteI d c) = some (bs s) then some (minuteI d c) else none
    | _, _ => none) := rfl
  generalize (Lib.cut (bs s) [32]).1 = x at *
  generalize (Lib.cut (bs s) [32]).2.1 = y at *
  clear e1 e2
  have hn : New w (w.drewN k) := (New.refl w).drewN k
  go_wp2_with fail
  refine (air_readNumber (B x) 14 _ (by rw [B_size]; omega) (by omega)).mono ?_
  rintro e w2 ⟨rfl, h2⟩
  rw [bs_B]
  have hn2 := hn.trans h2
  clear h2 hn
  go_wp2_with fail
  refine (air_readNumber (B y) 2359 _ (by rw [B_size]; omega) (by omega)).mono ?_
  rintro e w3 ⟨rfl, h3⟩
  rw [bs_B]
  have hn3 := hn2.trans h3
  clear h3 hn2
  cases hx : numO 14 x with
  | none =>
    have HX := Lib.hid hx
    clear hx
    go_wp2_with fail
    refine bodyPost_ret (v := .tuple #[.int .i64 0, .int .i64 13]) (by simp [results, Tryz.results26, go_sem]) rfl ⟨by rw [HV.out, HX.out]; rfl, hn3⟩
  | some d =>
    have HX := Lib.hid hx
    clear hx
    cases hy : numO 2359 y with
    | none =>
      have HY := Lib.hid hy
      clear hy
      go_wp2_with fail
      refine bodyPost_ret (v := .tuple #[.int .i64 0, .int .i64 13]) (by simp [results, Tryz.results26, go_sem]) rfl ⟨by rw [HV.out, HX.out, HY.out]; rfl, hn3⟩
    | some c =>
      have HY := Lib.hid hy
      have hc := numO_le hy
      have hd := numO_le HX.out
      clear hy
      have HM : Hid (parseV (bs s) = if timeV (minuteI d c) = some (bs s) then some (minuteI d c) else none) := by rw [HV.out, HX.out, HY.out]; trivial
      go_wp2_with fail
      have em : ((d : Int) - 1) * 1440 + (c : Int) / 100 * 60 + (c : Int) % 100 = minuteI d c := rfl
      rw [em]
      clear em
      generalize minuteI d c = M at *
      refine (air_PrintTime M w3).mono ?_
      rintro e w4 ⟨rfl, h4⟩
      have hn4 := hn3.trans h4
      clear h4 hn3
      cases ht : timeV M with
      | none =>
        have HT := Lib.hid ht
        clear ht
        simp only [errV]
        go_wp2_with fail
        refine bodyPost_ret (v := .tuple #[.int .i64 0, .int .i64 13]) (by simp [results, Tryz.results26, go_sem]) rfl ⟨by rw [HM.out, HT.out]; rfl, hn4⟩
      | some l =>
        have HT := Lib.hid ht
        clear ht
        simp only [errV, textV]
        by_cases hl : l = bs s
        · have hB : B l = s := by rw [hl, B_bs]
          have HL := Lib.hid hl
          clear hl
          rw [hB]
          clear hB
          go_wp2_with fail
          refine bodyPost_ret (v := .tuple #[.int .i64 M, .int .i64 0]) (by simp [results, Tryz.results26, go_sem]) rfl ⟨by rw [HM.out, HT.out, HL.out, if_pos rfl]; rfl, hn4⟩
        · have hB : ((B l).toList == s.toList) = false := by
            rw [Lib.toList_data, Lib.toList_data, beq_eq_false_iff_ne]
            intro h
            exact hl h
          have HL := Lib.hid hl
          clear hl
          go_wp2_with fail
          refine bodyPost_ret (v := .tuple #[.int .i64 0, .int .i64 13]) (by simp [results, Tryz.results26, go_sem]) rfl ⟨by rw [HM.out, HT.out, if_neg (by intro h; injection h with h; exact HL.out h)]; rfl, hn4⟩

end Go.Proofs.YtkbdmdnahphkkaaGreatDoor

/-
  Decimal of the specification for numbers below 100: the same as the program's pad.
-/
namespace Go.Proofs.YtkbdmdnahphkkaaGreatDoor
open Go.RowKit
/-- The digits of a number, none of 0. -/
def digs (n : Nat) : Bytes := if n = 0 then [] else Lib.decDigits n
/-- With zeros ahead. -/
def zp (n d : Nat) : Bytes := List.replicate (d - (digs n).length) 48 ++ digs n
theorem digs_step {n : Nat} (h : 0 < n) : digs n = digs (n / 10) ++ [UInt8.ofNat (48 + n % 10)] := by
  unfold digs
  rw [if_neg (by omega)]
  conv => lhs; unfold Lib.decDigits
  by_cases h10 : n < 10
  · have : n / 10 = 0 := by omega
    rw [dif_pos h10, if_pos this, Nat.mod_eq_of_lt h10]; rfl
  · have : ¬ n / 10 = 0 := by omega
    rw [dif_neg h10, if_neg this]
theorem zp_step {n d : Nat} (h : 0 < n ∨ 0 < d) : zp n d = zp (n / 10) (d - 1) ++ [UInt8.ofNat (48 + n % 10)] := by
  unfold zp
  by_cases hn : 0 < n
  · rw [digs_step hn, List.length_append, ← List.append_assoc]
    congr 2
    congr 1
    simp only [List.length_cons, List.length_nil]; omega
  · have h0 : n = 0 := by omega
    subst h0
    have hd : 0 < d := by omega
    have e : digs 0 = [] := rfl
    rw [e]
    simp only [List.append_nil, List.length_nil, Nat.sub_zero]
    obtain ⟨k, rfl⟩ : ∃ k, d = k + 1 := ⟨d - 1, by omega⟩
    rw [List.replicate_succ']
    rfl
theorem zp_pad {n d : Nat} (h : 1 ≤ d) : zp n d = padL n d := by
  unfold zp padL digs
  by_cases hn : n = 0
  · subst hn
    rw [if_pos rfl]
    have e : Lib.decDigits 0 = [48] := by unfold Lib.decDigits; rfl
    rw [e]
    obtain ⟨k, rfl⟩ : ∃ k, d = k + 1 := ⟨d - 1, by omega⟩
    simp [List.replicate_succ']
  · rw [if_neg hn]
theorem dig_at (m : Nat) (h : m < 10) : (⟨#[48, 49, 50, 51, 52, 53, 54, 55, 56, 57]⟩ : ByteArray).extract m (m + 1) = B [UInt8.ofNat (48 + m)] := by
  obtain rfl | rfl | rfl | rfl | rfl | rfl | rfl | rfl | rfl | rfl : m = 0 ∨ m = 1 ∨ m = 2 ∨ m = 3 ∨ m = 4 ∨ m = 5 ∨ m = 6 ∨ m = 7 ∨ m = 8 ∨ m = 9 := by omega
  all_goals decide
def lenOf : Value → Nat
  | .string s => s.size
  | _ => 0
end Go.Proofs.YtkbdmdnahphkkaaGreatDoor

/-
  Plain facts on texts of digits: their numbers, what readNumber answers of them, zeros ahead, and what stands between blanks. No program, no condition.
-/
namespace Go.Proofs.YtkbdmdnahphkkaaGreatDoor
open Go.RowKit
/-- Digits only. -/
def Digs (l : Bytes) : Prop := ∀ c ∈ l, 48 ≤ c.toNat ∧ c.toNat ≤ 57
/-- The number of digits, behind a number. -/
def valL (n : Nat) (l : Bytes) : Nat := l.foldl (fun a c => a * 10 + (c.toNat - 48)) n
theorem valL_nil (n : Nat) : valL n [] = n := by simp only [valL, List.foldl_nil]
theorem valL_cons (n : Nat) (c : UInt8) (l : Bytes) : valL n (c :: l) = valL (n * 10 + (c.toNat - 48)) l := by simp only [valL, List.foldl_cons]
theorem valL_ge : ∀ (l : Bytes) (n : Nat), n ≤ valL n l
  | [], n => by rw [valL_nil]; exact Nat.le_refl n
  | c :: l, n => by
    have := valL_ge l (n * 10 + (c.toNat - 48))
    rw [valL_cons]; omega
theorem valL_snoc (c : UInt8) : ∀ (l : Bytes) (n : Nat), valL n (l ++ [c]) = valL n l * 10 + (c.toNat - 48)
  | [], n => by rw [List.nil_append, valL_cons, valL_nil, valL_nil]
  | a :: l, n => by rw [List.cons_append, valL_cons, valL_snoc c l, valL_cons]
theorem valL_append (m : Bytes) : ∀ (l : Bytes) (n : Nat), valL n (l ++ m) = valL (valL n l) m
  | [], n => by rw [List.nil_append, valL_nil]
  | a :: l, n => by rw [List.cons_append, valL_cons, valL_append m l, valL_cons]
theorem valL_shift : ∀ (l : Bytes) (n : Nat), valL n l = n * 10 ^ l.length + valL 0 l
  | [], n => by simp [valL_nil]
  | c :: l, n => by
    have h1 := valL_shift l (n * 10 + (c.toNat - 48))
    have h2 := valL_shift l (0 * 10 + (c.toNat - 48))
    rw [valL_cons, valL_cons, h1, h2, List.length_cons, Nat.pow_succ, Nat.add_mul, Nat.zero_mul, Nat.zero_add, Nat.add_assoc, Nat.mul_comm (10 ^ l.length) 10, ← Nat.mul_assoc]
theorem valL_lt : ∀ (x : Bytes), Digs x → valL 0 x < 10 ^ x.length
  | [], _ => by simp [valL_nil]
  | c :: x, h => by
    have ih := valL_lt x (fun a ha => h a (by simp [ha]))
    have hc := h c (by simp)
    rw [valL_cons, valL_shift, List.length_cons, Nat.pow_succ]
    have h1 : (0 * 10 + (c.toNat - 48)) * 10 ^ x.length ≤ 9 * 10 ^ x.length := Nat.mul_le_mul_right _ (by omega)
    omega
theorem readL_val {most : Nat} : ∀ {l : Bytes} {n : Nat}, Digs l → n ≤ most → readL most n l = if valL n l ≤ most then some (valL n l) else none
  | [], n, _, h => by rw [readL, valL_nil, if_pos h]
  | c :: l, n, hd, h => by
    have hc := hd c (by simp)
    have hl : Digs l := fun x hx => hd x (by simp [hx])
    rw [readL, if_pos hc, valL_cons]
    by_cases hm : most < n * 10 + (c.toNat - 48)
    · have := valL_ge l (n * 10 + (c.toNat - 48))
      rw [if_pos hm, if_neg (by omega)]
    · rw [if_neg hm, readL_val hl (by omega)]
theorem readL_digs {most : Nat} : ∀ {l : Bytes} {n m : Nat}, readL most n l = some m → Digs l ∧ m = valL n l
  | [], n, m, h => by
    rw [readL] at h
    cases h
    exact ⟨fun x hx => (by cases hx), rfl⟩
  | c :: l, n, m, h => by
    rw [readL] at h
    split at h
    · rename_i hc
      split at h
      · cases h
      · obtain ⟨h1, h2⟩ := readL_digs h
        refine ⟨fun x hx => ?_, by rw [valL_cons]; exact h2⟩
        rcases List.mem_cons.1 hx with rfl | hx
        · exact hc
        · exact h1 x hx
    · cases h
theorem numO_val {most : Nat} {l : Bytes} (h0 : l ≠ []) (hd : Digs l) (hm : valL 0 l ≤ most) : numO most l = some (valL 0 l) := by
  unfold numO
  rw [if_neg h0, readL_val hd (Nat.zero_le _), if_pos hm]
theorem dig_num (n : Nat) : (UInt8.ofNat (48 + n % 10)).toNat = 48 + n % 10 := by
  rw [UInt8.toNat_ofNat']
  omega
theorem digs_append {a b : Bytes} (ha : Digs a) (hb : Digs b) : Digs (a ++ b) := fun x hx => (List.mem_append.1 hx).elim (ha x) (hb x)
theorem zp_zero : zp 0 0 = [] := rfl
theorem zp_facts : ∀ (k n d : Nat), n + d ≤ k → Digs (zp n d) ∧ valL 0 (zp n d) = n ∧ d ≤ (zp n d).length
  | 0, n, d, h => by
    obtain rfl : n = 0 := by omega
    obtain rfl : d = 0 := by omega
    rw [zp_zero]
    exact ⟨fun x hx => (by cases hx), rfl, by simp⟩
  | k + 1, n, d, h => by
    by_cases h0 : 0 < n ∨ 0 < d
    · obtain ⟨h1, h2, h3⟩ := zp_facts k (n / 10) (d - 1) (by omega)
      rw [zp_step h0]
      refine ⟨digs_append h1 (fun x hx => ?_), ?_, ?_⟩
      · rw [List.mem_singleton] at hx
        subst hx
        rw [dig_num]; omega
      · rw [valL_snoc, h2, dig_num]; omega
      · rw [List.length_append, List.length_singleton]; omega
    · obtain rfl : n = 0 := by omega
      obtain rfl : d = 0 := by omega
      rw [zp_zero]
      exact ⟨fun x hx => (by cases hx), rfl, by simp⟩
theorem pad_facts (n d : Nat) (h : 1 ≤ d) : Digs (padL n d) ∧ valL 0 (padL n d) = n ∧ d ≤ (padL n d).length ∧ padL n d ≠ [] := by
  obtain ⟨h1, h2, h3⟩ := zp_facts (n + d) n d (Nat.le_refl _)
  rw [zp_pad h] at h1 h2 h3
  refine ⟨h1, h2, h3, fun e => ?_⟩
  rw [e] at h3
  simp at h3
  omega
/-- How many digits a number below 10 to the power of k has at most. -/
theorem zp_len : ∀ (k n d : Nat), n < 10 ^ k → d ≤ k → (zp n d).length ≤ k
  | 0, n, d, hn, hd => by
    obtain rfl : n = 0 := by simpa using hn
    obtain rfl : d = 0 := by omega
    rw [zp_zero]; simp
  | k + 1, n, d, hn, hd => by
    by_cases h0 : 0 < n ∨ 0 < d
    · have := zp_len k (n / 10) (d - 1) (by rw [Nat.pow_succ] at hn; omega) (by omega)
      rw [zp_step h0, List.length_append, List.length_singleton]; omega
    · obtain rfl : n = 0 := by omega
      obtain rfl : d = 0 := by omega
      rw [zp_zero]; simp
theorem padL_len (k n d : Nat) (h : 1 ≤ d) (hn : n < 10 ^ k) (hd : d ≤ k) : (padL n d).length ≤ k := by
  rw [← zp_pad h]; exact zp_len k n d hn hd
/-- A number of at most k digits with at least k has just k. -/
theorem padL_len_eq (k n : Nat) (h : 1 ≤ k) (hn : n < 10 ^ k) : (padL n k).length = k :=
  Nat.le_antisymm (padL_len k n k h hn (Nat.le_refl _)) (pad_facts n k h).2.2.1
theorem digs_no {c : UInt8} (hc : c.toNat < 48) {l : Bytes} (h : Digs l) : c ∉ l := fun hx => by have := h c hx; omega
/-- What stands between the bytes c of a text, a piece being begun. -/
def pcs (c : UInt8) : Bytes → Bytes → List Bytes
  | cur, [] => [cur]
  | cur, a :: l => if a = c then cur :: pcs c [] l else pcs c (cur ++ [a]) l
theorem pcs_cur (c : UInt8) : ∀ (l cur : Bytes), ∃ p ps, piecesL c l = p :: ps ∧ pcs c cur l = (cur ++ p) :: ps
  | [], cur => ⟨[], [], rfl, by simp [pcs]⟩
  | a :: l, cur => by
    by_cases h : a = c
    · obtain ⟨p, ps, h1, h2⟩ := pcs_cur c l []
      refine ⟨[], piecesL c l, by rw [piecesL, if_pos h], ?_⟩
      rw [pcs, if_pos h, h2, h1, List.append_nil, List.nil_append]
    · obtain ⟨p, ps, h1, h2⟩ := pcs_cur c l (cur ++ [a])
      refine ⟨a :: p, ps, by rw [piecesL, if_neg h, h1], ?_⟩
      rw [pcs, if_neg h, h2, List.append_assoc]
      rfl
theorem pcs_pieces (c : UInt8) (l : Bytes) : pcs c [] l = piecesL c l := by
  obtain ⟨p, ps, h1, h2⟩ := pcs_cur c l []
  rw [h1, h2]; rfl
theorem pieces_sole {c : UInt8} : ∀ {l : Bytes}, c ∉ l → piecesL c l = [l]
  | [], _ => rfl
  | a :: l, h => by
    rw [piecesL, if_neg (fun e => h (by rw [e]; simp)), pieces_sole (fun e => h (by simp [e]))]
theorem pieces_cons {c : UInt8} {m : Bytes} : ∀ {l : Bytes}, c ∉ l → piecesL c (l ++ c :: m) = l :: piecesL c m
  | [], _ => by rw [List.nil_append, piecesL, if_pos rfl]
  | a :: l, h => by
    rw [List.cons_append, piecesL, if_neg (fun e => h (by rw [e]; simp)), pieces_cons (fun e => h (by simp [e]))]
theorem index_here {c : UInt8} {m : Bytes} : ∀ {l : Bytes}, c ∉ l → Lib.index (l ++ c :: m) [c] = l.length
  | [], _ => by simp [Lib.index]
  | a :: l, h => by
    have ih := index_here (m := m) (fun e => h (List.mem_cons_of_mem a e) : c ∉ l)
    have ha : c ≠ a := fun e => h (by rw [e]; simp)
    rw [List.cons_append, Lib.index, ih]
    simp [ha]
theorem index_none {c : UInt8} : ∀ {l : Bytes}, c ∉ l → Lib.index l [c] = -1
  | [], _ => by simp [Lib.index]
  | a :: l, h => by
    have ih := index_none (fun e => h (List.mem_cons_of_mem a e) : c ∉ l)
    have ha : c ≠ a := fun e => h (by rw [e]; simp)
    rw [Lib.index, ih]
    simp [ha]
theorem cut_here {c : UInt8} {l m : Bytes} (h : c ∉ l) : Lib.cut (l ++ c :: m) [c] = (l, m, true) := by
  unfold Lib.cut
  rw [index_here h]
  simp
theorem cut_none {c : UInt8} {l : Bytes} (h : c ∉ l) : Lib.cut l [c] = (l, [], false) := by
  unfold Lib.cut
  rw [index_none h]
  simp

end Go.Proofs.YtkbdmdnahphkkaaGreatDoor

/-
  Texts of times, and back: whatever PrintTime prints, ParseTime of the program and that of the specification read again, and nothing else. No program, no condition.
-/
namespace Go.Proofs.YtkbdmdnahphkkaaGreatDoor
open Go.RowKit
theorem time_bounds {M : Int} {l : Bytes} (h : timeV M = some l) : ∃ n : Nat, M = n ∧ n ≤ 20000 ∧ l = timeL n := by
  unfold timeV at h
  split at h
  · rename_i hw
    rw [withinB_iff] at hw
    cases h
    exact ⟨M.toNat, by omega, by omega, rfl⟩
  · cases h
theorem clock_val (h m : Nat) (hm : m < 100) : valL 0 (padL h 2 ++ padL m 2) = h * 100 + m := by
  rw [valL_append, (pad_facts h 2 (by omega)).2.1, valL_shift, padL_len_eq 2 m (by omega) (by omega), (pad_facts m 2 (by omega)).2.1]
theorem minute_of (n : Nat) : minuteI (n / 1440 + 1 : Nat) ((n % 1440 / 60) * 100 + n % 60 : Nat) = n := by
  unfold minuteI; omega
theorem clock_digs (h m : Nat) : Digs (padL h 2 ++ padL m 2) := digs_append (pad_facts h 2 (by omega)).1 (pad_facts m 2 (by omega)).1
theorem parseV_iff (l : Bytes) (M : Int) : parseV l = some M ↔ timeV M = some l := by
  constructor
  · intro h
    unfold parseV at h
    split at h
    · split at h
      · cases h; assumption
      · cases h
    · cases h
  · intro h
    obtain ⟨n, rfl, hn, rfl⟩ := time_bounds h
    have hd := pad_facts (n / 1440 + 1) 1 (by omega)
    have hc : Lib.cut (timeL n) [32] = _ := cut_here (digs_no (by decide) hd.1)
    have h1 : numO 14 (padL (n / 1440 + 1) 1) = some (n / 1440 + 1) := by rw [numO_val hd.2.2.2 hd.1 (by rw [hd.2.1]; omega), hd.2.1]
    have h2 : numO 2359 (padL (n % 1440 / 60) 2 ++ padL (n % 60) 2) = some ((n % 1440 / 60) * 100 + n % 60) := by
      rw [numO_val (fun e => (pad_facts (n % 60) 2 (by omega)).2.2.2 (List.append_eq_nil_iff.1 e).2) (clock_digs _ _) (by rw [clock_val _ _ (by omega)]; omega), clock_val _ _ (by omega)]
    unfold parseV
    rw [hc]
    simp only [h1, h2]
    rw [minute_of, if_pos h]
/-- The specification's number of a text: digits, 1 to 9 of them. -/
def numR (l : Bytes) : Option Nat := if 1 ≤ l.length ∧ l.length ≤ 9 ∧ l.all isD = true then some (valL 0 l) else none
def numI : Option Nat → Int
  | some n => n
  | none => -1
theorem all_digs {l : Bytes} : l.all isD = true ↔ Digs l := by
  rw [List.all_eq_true]
  unfold Digs isD
  simp
theorem numR_pad (k n d : Nat) (h : 1 ≤ d) (hn : n < 10 ^ k) (hd : d ≤ k) (hk : k ≤ 9) : numR (padL n d) = some n := by
  have hf := pad_facts n d h
  have hl := padL_len k n d h hn hd
  unfold numR
  rw [if_pos ⟨by omega, by omega, all_digs.2 hf.1⟩, hf.2.1]
/-- ParseTime of the specification. -/
def parseR (l : Bytes) : Option Int :=
  if 20 < l.length then none else match piecesL 32 l with
  | [a, b] => match numR a, numR b with
    | some d, some c => if 1 ≤ d then (if timeV (minuteI d c) = some l then some (minuteI d c) else none) else none
    | _, _ => none
  | _ => none
theorem timeL_len (n : Nat) (h : n ≤ 20000) : (timeL n).length ≤ 7 := by
  have h1 := padL_len 2 (n / 1440 + 1) 1 (by omega) (by omega) (by omega)
  have h2 := padL_len 2 (n % 1440 / 60) 2 (by omega) (by omega) (by omega)
  have h3 := padL_len 2 (n % 60) 2 (by omega) (by omega) (by omega)
  unfold timeL
  simp only [List.length_append, List.length_cons]
  omega
theorem parseR_iff (l : Bytes) (M : Int) : parseR l = some M ↔ timeV M = some l := by
  constructor
  · intro h
    unfold parseR at h
    split at h
    · cases h
    · split at h
      · split at h
        · split at h
          · split at h
            · cases h; assumption
            · cases h
          · cases h
        · cases h
      · cases h
  · intro h
    obtain ⟨n, rfl, hn, rfl⟩ := time_bounds h
    have hd := pad_facts (n / 1440 + 1) 1 (by omega)
    have hp : piecesL 32 (timeL n) = [padL (n / 1440 + 1) 1, padL (n % 1440 / 60) 2 ++ padL (n % 60) 2] := by
      unfold timeL
      rw [pieces_cons (digs_no (by decide) hd.1), pieces_sole (digs_no (by decide) (clock_digs _ _))]
    have h1 : numR (padL (n / 1440 + 1) 1) = some (n / 1440 + 1) := numR_pad 2 _ 1 (by omega) (by omega) (by omega) (by omega)
    have h2 : numR (padL (n % 1440 / 60) 2 ++ padL (n % 60) 2) = some ((n % 1440 / 60) * 100 + n % 60) := by
      have hl4 : (padL (n % 1440 / 60) 2 ++ padL (n % 60) 2).length = 4 := by
        rw [List.length_append, padL_len_eq 2 _ (by omega) (by omega), padL_len_eq 2 _ (by omega) (by omega)]
      unfold numR
      rw [if_pos ⟨by omega, by omega, all_digs.2 (clock_digs _ _)⟩, clock_val _ _ (by omega)]
    have hl := timeL_len n hn
    unfold parseR
    rw [if_neg (by omega), hp]
    simp only [h1, h2]
    rw [if_pos (by omega), minute_of, if_pos h]
theorem parseR_eq (l : Bytes) : parseR l = parseV l := by
  cases h : parseR l with
  | some M => rw [((parseV_iff l M).2 ((parseR_iff l M).1 h))]
  | none =>
    cases h2 : parseV l with
    | some M => rw [(parseR_iff l M).2 ((parseV_iff l M).1 h2)] at h; cases h
    | none => rfl

end Go.Proofs.YtkbdmdnahphkkaaGreatDoor

/-
  Texts in the specification: digit, letter, number, and what stands between the blanks or the strokes of a text (split, pieces). Conditions: texts of at most 100000 bytes.
-/
namespace Go.Proofs.YtkbdmdnahphkkaaGreatDoor
open Go.RowKit
theorem ref_digit (c : Int) (w : World) : Calls Tryz.prog 90 #[.int .u8 c] w fun e w' => e = .returned (.bool (rngR 48 57 c)) ∧ w = w' := by
  go_enter Tryz.func90, Tryz.ntmps90
  go_wp2
  all_goals
    go_ret
    exact ⟨ret_bool (by simp [rngR]; omega), rfl⟩
theorem ref_letter (c : Int) (w : World) : Calls Tryz.prog 89 #[.int .u8 c] w fun e w' => e = .returned (.bool (rngR 65 90 c)) ∧ w = w' := by
  go_enter Tryz.func89, Tryz.ntmps89
  go_wp2
  all_goals
    go_ret
    exact ⟨ret_bool (by simp [rngR]; omega), rfl⟩
theorem rng_isD (c : UInt8) : rngR 48 57 c.toNat = isD c := by
  unfold rngR isD
  rw [Bool.eq_iff_iff]; simp; omega
theorem rng_isL (c : UInt8) : rngR 65 90 c.toNat = isL c := by
  unfold rngR isL
  rw [Bool.eq_iff_iff]; simp; omega
theorem take_on (s : ByteArray) (k : Nat) (h : k < s.size) : (bs s).take (k + 1) = (bs s).take k ++ [s[k]] := by
  have hl : k < (bs s).length := by rw [bs_size]; exact h
  have hg : (bs s)[k] = s[k] := by have := bs_get s k h; rw [List.getElem?_eq_getElem hl] at this; exact Option.some.inj this
  rw [List.take_succ_eq_append_getElem hl, hg]
  rfl
/-- One byte on, in a number. -/
theorem num_on (s : ByteArray) (k : Nat) (h : k < s.size) (hk : s.size ≤ 9) (hd : ((bs s).take k).all isD = true) :
    valL 0 ((bs s).take k) < 1000000000 ∧ (isD s[k] = true → ((bs s).take (k + 1)).all isD = true ∧ 48 ≤ s[k].toNat ∧ s[k].toNat ≤ 57 ∧ valL 0 ((bs s).take (k + 1)) = 10 * valL 0 ((bs s).take k) + (s[k].toNat - 48)) ∧ (isD s[k] = false → (bs s).all isD = false) := by
  refine ⟨?_, fun hx => ?_, fun hx => ?_⟩
  · have h1 := valL_lt _ (all_digs.1 hd)
    have h2 : ((bs s).take k).length ≤ 9 := by rw [List.length_take]; omega
    have h3 : 10 ^ ((bs s).take k).length ≤ 10 ^ 9 := Nat.pow_le_pow_right (by omega) h2
    omega
  · rw [take_on s k h, List.all_append, hd, valL_snoc]
    have h1 := hx
    unfold isD at h1
    simp at h1
    refine ⟨by simp [hx], by omega, by omega, by omega⟩
  · have h1 : (bs s).all isD = (((bs s).take (k + 1)).all isD && ((bs s).drop (k + 1)).all isD) := by rw [← List.all_append, List.take_append_drop]
    rw [h1, take_on s k h, List.all_append]
    simp [hx]
end Go.Proofs.YtkbdmdnahphkkaaGreatDoor
