/-
  ParseTime of the program, for every text of less than 2 to the power of 32 bytes in a world that has the library's variable MaxLen.
-/
import Derived.Test.YtkbdmdnahphkkaaGreatDoorNumbers
namespace Go.Proofs.YtkbdmdnahphkkaaGreatDoor
open Go.RowKit
/-- The minute of a text, or none, in the program's words. -/
def minuteI (d c : Nat) : Int := ((d : Int) - 1) * 1440 + (c : Int) / 100 * 60 + (c : Int) % 100
def parseV (l : Bytes) : Option Int :=
  match numO 14 (Lib.cut l [32]).1, numO 2359 (Lib.cut l [32]).2.1 with
  | some d, some c => if timeV (minuteI d c) = some l then some (minuteI d c) else none
  | _, _ => none
def errO (e : Int) : Option Int → Int
  | some _ => 0
  | none => e
theorem readL_le {most : Nat} : ∀ {l : Bytes} {n m : Nat}, n ≤ most → readL most n l = some m → m ≤ most
  | [], n, m, h, e => by rw [readL] at e; cases e; exact h
  | c :: l, n, m, h, e => by
    rw [readL] at e
    split at e
    · split at e
      · cases e
      · exact readL_le (by omega) e
    · cases e
theorem numO_le {most : Nat} {l : Bytes} {m : Nat} (e : numO most l = some m) : m ≤ most := by
  unfold numO at e
  split at e
  · cases e
  · exact readL_le (Nat.zero_le _) e
theorem cut_le (l c : Bytes) : (Lib.cut l c).1.length ≤ l.length ∧ (Lib.cut l c).2.1.length ≤ l.length := by
  unfold Lib.cut
  split
  · simp only [List.length_take, List.length_drop]; omega
  · simp
theorem air_ParseTime (s : ByteArray) (w : World) (hm : HasMax w) (hs : s.size < 4294967281) :
    Calls Tryz.prog 26 #[.string s] w fun e w' => e = .returned (.tuple #[.int .i64 ((parseV (bs s)).getD 0), .int .i64 (errO 13 (parseV (bs s)))]) ∧ New w w' := by
  have hz := bs_size s
  obtain ⟨m, hm⟩ := hm
  go_enter Tryz.func26, Tryz.ntmps26
  go_wp2_with fail
  refine (Tryz.strings_Cut s ⟨#[32]⟩ m w hs hm).mono ?_
  rintro e w1 ⟨rfl, k, rfl⟩
  have e1 : (⟨(Lib.cut s.data.toList (⟨#[32]⟩ : ByteArray).data.toList).1.toArray⟩ : ByteArray) = B (Lib.cut (bs s) [32]).1 := rfl
  have e2 : (⟨(Lib.cut s.data.toList (⟨#[32]⟩ : ByteArray).data.toList).2.1.toArray⟩ : ByteArray) = B (Lib.cut (bs s) [32]).2.1 := rfl
  rw [e1, e2]
  generalize (Lib.cut s.data.toList (⟨#[32]⟩ : ByteArray).data.toList).2.2 = fnd at *
  have hcl := cut_le (bs s) [32]
  have HV : Hid (parseV (bs s) = match numO 14 (Lib.cut (bs s) [32]).1, numO 2359 (Lib.cut (bs s) [32]).2.1 with
    | some d, some c => if timeV (minuteI d c) = some (bs s) then some (minuteI d c) else none
    | _, _ => none) := rfl
  generalize (Lib.cut (bs s) [32]).1 = x at *
  generalize (Lib.cut (bs s) [32]).2.1 = y at *
  clear e1 e2
  have hn : New w (w.drewN k) := (New.refl w).drewN k
  go_wp2_with fail
  refine (air_readNumber (B x) 14 _ (by rw [B_size]; omega) (by omega)).mono ?_
  rintro e w2 ⟨rfl, h2⟩
  rw [bs_B]
  have hn2 := hn.trans h2
  clear h2 hn
  go_wp2_with fail
  refine (air_readNumber (B y) 2359 _ (by rw [B_size]; omega) (by omega)).mono ?_
  rintro e w3 ⟨rfl, h3⟩
  rw [bs_B]
  have hn3 := hn2.trans h3
  clear h3 hn2
  cases hx : numO 14 x with
  | none =>
    have HX := Lib.hid hx
    clear hx
    go_wp2_with fail
    refine bodyPost_ret (v := .tuple #[.int .i64 0, .int .i64 13]) (by simp [results, Tryz.results26, go_sem]) rfl ⟨by rw [HV.out, HX.out]; rfl, hn3⟩
  | some d =>
    have HX := Lib.hid hx
    clear hx
    cases hy : numO 2359 y with
    | none =>
      have HY := Lib.hid hy
      clear hy
      go_wp2_with fail
      refine bodyPost_ret (v := .tuple #[.int .i64 0, .int .i64 13]) (by simp [results, Tryz.results26, go_sem]) rfl ⟨by rw [HV.out, HX.out, HY.out]; rfl, hn3⟩
    | some c =>
      have HY := Lib.hid hy
      have hc := numO_le hy
      have hd := numO_le HX.out
      clear hy
      have HM : Hid (parseV (bs s) = if timeV (minuteI d c) = some (bs s) then some (minuteI d c) else none) := by rw [HV.out, HX.out, HY.out]; trivial
      go_wp2_with fail
      have em : ((d : Int) - 1) * 1440 + (c : Int) / 100 * 60 + (c : Int) % 100 = minuteI d c := rfl
      rw [em]
      clear em
      generalize minuteI d c = M at *
      refine (air_PrintTime M w3).mono ?_
      rintro e w4 ⟨rfl, h4⟩
      have hn4 := hn3.trans h4
      clear h4 hn3
      cases ht : timeV M with
      | none =>
        have HT := Lib.hid ht
        clear ht
        simp only [errV]
        go_wp2_with fail
        refine bodyPost_ret (v := .tuple #[.int .i64 0, .int .i64 13]) (by simp [results, Tryz.results26, go_sem]) rfl ⟨by rw [HM.out, HT.out]; rfl, hn4⟩
      | some l =>
        have HT := Lib.hid ht
        clear ht
        simp only [errV, textV]
        by_cases hl : l = bs s
        · have hB : B l = s := by rw [hl, B_bs]
          have HL := Lib.hid hl
          clear hl
          rw [hB]
          clear hB
          go_wp2_with fail
          refine bodyPost_ret (v := .tuple #[.int .i64 M, .int .i64 0]) (by simp [results, Tryz.results26, go_sem]) rfl ⟨by rw [HM.out, HT.out, HL.out, if_pos rfl]; rfl, hn4⟩
        · have hB : ((B l).toList == s.toList) = false := by
            rw [Lib.toList_data, Lib.toList_data, beq_eq_false_iff_ne]
            intro h
            exact hl h
          have HL := Lib.hid hl
          clear hl
          go_wp2_with fail
          refine bodyPost_ret (v := .tuple #[.int .i64 0, .int .i64 13]) (by simp [results, Tryz.results26, go_sem]) rfl ⟨by rw [HM.out, HT.out, if_neg (by intro h; injection h with h; exact HL.out h)]; rfl, hn4⟩

end Go.Proofs.YtkbdmdnahphkkaaGreatDoor
