/-
  PrintTime and ParseTime of the specification: the same texts and minutes as the program's. Condition: texts of at most 100000 bytes.
-/
import Derived.Test.YtcaljokcgfkppaaDoorRefSplit
namespace Go.Proofs.YtcaljokcgfkppaaDoor
open Go.RowKit
theorem ref_PrintTime_go (n : Nat) (w : World) (hn : n ≤ 20000) :
    Calls Tryd.prog 37 #[.int .i64 n] w fun e w' => e = .returned (.tuple #[.string (B (timeL n)), .int .i64 0]) ∧ New w w' := by
  go_enter Tryd.func37, Tryd.ntmps37
  have hw : withinB n 0 20000 = true := by unfold withinB; simp; omega
  go_wp2_with fail
  refine (ref_within _ _ _ w).mono ?_
  rintro e w' ⟨rfl, rfl⟩
  rw [hw]
  clear hw
  go_wp2_with fail
  have k1 : ((n : Int) / 1440 + 1) = ((n / 1440 + 1 : Nat) : Int) := by omega
  rw [k1]
  clear k1
  refine (ref_Decimal (n / 1440 + 1) 1 _ (by omega) (by omega) (by omega)).mono ?_
  rintro e w1 ⟨rfl, h1⟩
  have l1 := pad_len (n := n / 1440 + 1) (d := 1) (by omega) (by omega)
  have s1 := B_size (padL (n / 1440 + 1) 1)
  have HT : Hid (timeL n = padL (n / 1440 + 1) 1 ++ 32 :: (padL (n % 1440 / 60) 2 ++ padL (n % 60) 2)) := rfl
  generalize padL (n / 1440 + 1) 1 = p1 at *
  have e1 : B p1 ++ ⟨#[32]⟩ = B (p1 ++ [32]) := by rw [← B_append]; rfl
  have E1 := Lib.hid e1
  clear e1
  go_wp2_with fail
  have k2 : ((n : Int) % 1440 / 60) = ((n % 1440 / 60 : Nat) : Int) := by omega
  rw [k2]
  clear k2
  refine (ref_Decimal (n % 1440 / 60) 2 _ (by omega) (by omega) (by omega)).mono ?_
  rintro e w2 ⟨rfl, h2⟩
  have h2 := h1.trans h2
  clear h1
  have l2 := pad_len (n := n % 1440 / 60) (d := 2) (by omega) (by omega)
  have s2 := B_size (padL (n % 1440 / 60) 2)
  generalize padL (n % 1440 / 60) 2 = p2 at *
  generalize ((n % 1440 / 60 : Nat) : Int) = i2 at *
  rw [E1.out]
  have s3 := B_size (p1 ++ [32])
  rw [List.length_append, List.length_singleton] at s3
  go_wp2_with fail
  have k2 : ((n : Int) % 60) = ((n % 60 : Nat) : Int) := by omega
  rw [k2]
  clear k2
  refine (ref_Decimal (n % 60) 2 _ (by omega) (by omega) (by omega)).mono ?_
  rintro e w3 ⟨rfl, h3⟩
  have h3 := h2.trans h3
  clear h2
  have l3 := pad_len (n := n % 60) (d := 2) (by omega) (by omega)
  have s4 := B_size (padL (n % 60) 2)
  generalize padL (n % 60) 2 = p3 at *
  generalize ((n % 60 : Nat) : Int) = i3 at *
  have s5 : (B (p1 ++ [32]) ++ B p2).size = p1.length + 1 + p2.length := by rw [B_append, B_size]; simp; omega
  go_wp2_with fail
  refine bodyPost_ret (v := .tuple #[.string (B (timeL n)), .int .i64 0]) (by simp [results, Tryd.results37, go_sem, HT.out, B_append]) rfl ⟨rfl, h3⟩
theorem ref_PrintTime (n : Int) (w : World) :
    Calls Tryd.prog 37 #[.int .i64 n] w fun e w' => e = .returned (.tuple #[.string (B (textV (timeV n))), .int .i64 (errV 1 (timeV n))]) ∧ New w w' := by
  cases hw : withinB n 0 20000 with
  | true =>
    have h0 : timeV n = some (timeL n.toNat) := by unfold timeV; rw [if_pos hw]
    rw [h0]
    unfold withinB at hw
    simp at hw
    obtain ⟨m, rfl⟩ : ∃ m : Nat, n = m := ⟨n.toNat, by omega⟩
    exact ref_PrintTime_go m w (by omega)
  | false =>
    have h0 : timeV n = none := by unfold timeV; rw [if_neg (by rw [hw]; decide)]
    rw [h0]
    clear h0
    go_enter Tryd.func37, Tryd.ntmps37
    go_wp2_with fail
    refine (ref_within _ _ _ w).mono ?_
    rintro e w' ⟨rfl, rfl⟩
    rw [hw]
    clear hw
    go_wp2_with fail
    refine bodyPost_ret (v := .tuple #[.string (B []), .int .i64 1]) (by simp [results, Tryd.results37, go_sem]; rfl) rfl ⟨rfl, New.refl w⟩
theorem numR_le {l : Bytes} {n : Nat} (h : numR l = some n) : n < 1000000000 := by
  unfold numR at h
  split at h
  · rename_i hc
    cases h
    have h1 := valL_lt l (all_digs.1 hc.2.2)
    have h3 : 10 ^ l.length ≤ 10 ^ 9 := Nat.pow_le_pow_right (by omega) hc.2.1
    omega
  · cases h
theorem pieces_nonnil (c : UInt8) (l : Bytes) : piecesL c l ≠ [] := (pieces_len c l).2.1
theorem ref_ParseTime (s : ByteArray) (w : World) (hs : s.size ≤ 100000) :
    Calls Tryd.prog 39 #[.string s] w fun e w' => e = .returned (.tuple #[.int .i64 ((parseR (bs s)).getD 0), .int .i64 (errO 13 (parseR (bs s)))]) ∧ New w w' := by
  have hz := bs_size s
  go_enter Tryd.func39, Tryd.ntmps39
  go_wp2_with fail
  refine (ref_split s w hs).mono ?_
  rintro e w1 ⟨v, rfl, hst⟩
  obtain ⟨g, cap, rfl, hg1, hg2, hcap, hcell⟩ := hst.open' (pieces_nonnil 32 (bs s))
  have hn1 := hst.2
  have hpl := (pieces_len 32 (bs s)).1
  have hpz := (pieces_len 32 (bs s)).2.2
  rw [hz] at hpl
  clear hst
  have HP : Hid (20 < s.size → parseR (bs s) = none) := by
    have h : 20 < s.size → parseR (bs s) = none := fun h => by unfold parseR; rw [if_pos (by omega)]
    exact Lib.hid h
  by_cases h20 : 20 < s.size
  · have HE := Lib.hid (HP.out h20)
    go_wp2_with fail
    refine bodyPost_ret (v := .tuple #[.int .i64 0, .int .i64 13]) (by simp [results, Tryd.results39, go_sem]) rfl ⟨by rw [HE.out]; rfl, hn1⟩
  · clear HP
    have HQ : Hid (parseR (bs s) = match piecesL 32 (bs s) with
      | [a, b] => match numR a, numR b with
        | some d, some c => if 1 ≤ d then (if timeV (minuteI d c) = some (bs s) then some (minuteI d c) else none) else none
        | _, _ => none
      | _ => none) := by
      unfold parseR
      rw [if_neg (by omega)]; rfl
    by_cases h2 : (piecesL 32 (bs s)).length = 2
    · obtain ⟨x, y, hxy⟩ : ∃ x y, piecesL 32 (bs s) = [x, y] := by
        match hp : piecesL 32 (bs s), h2 with
        | [x, y], _ => exact ⟨x, y, rfl⟩
      rw [hxy] at HQ hcell hpz ⊢
      have c0 := hcell 0 x rfl
      have c1 := hcell 1 y rfl
      have hx := hpz x (by simp)
      have hy := hpz y (by simp)
      have HC := Lib.hid hcell
      clear hcell hxy h2 hpz hpl
      simp only [strV] at c0 c1
      go_wp2_with fail
      refine (ref_number (B x) _ (by rw [B_size]; omega)).mono ?_
      rintro e w2 ⟨rfl, rfl⟩
      rw [bs_B]
      go_wp2_with fail
      refine (ref_number (B y) _ (by rw [B_size]; omega)).mono ?_
      rintro e w2 ⟨rfl, rfl⟩
      rw [bs_B]
      cases hx1 : numR x with
      | none =>
        have HE : Hid (parseR (bs s) = none) := by
          have h : parseR (bs s) = none := by rw [HQ.out]; simp only [hx1]
          exact Lib.hid h
        clear hx1
        have hI : ((numI none : Int)) = -1 := rfl
        rw [hI]
        generalize numI (numR y) = m
        clear hI
        go_wp2_with fail
        refine bodyPost_ret (v := .tuple #[.int .i64 0, .int .i64 13]) (by simp [results, Tryd.results39, go_sem]) rfl ⟨by rw [HE.out]; rfl, hn1⟩
      | some d =>
        have hd := numR_le hx1
        by_cases hd1 : 1 ≤ d
        · cases hy1 : numR y with
          | none =>
            have HE : Hid (parseR (bs s) = none) := by
              have h : parseR (bs s) = none := by rw [HQ.out]; simp only [hx1, hy1]
              exact Lib.hid h
            clear hx1 hy1
            simp only [numI]
            go_wp2_with fail
            refine bodyPost_ret (v := .tuple #[.int .i64 0, .int .i64 13]) (by simp [results, Tryd.results39, go_sem]) rfl ⟨by rw [HE.out]; rfl, hn1⟩
          | some c =>
            have hc := numR_le hy1
            have HE : Hid (parseR (bs s) = if timeV (minuteI d c) = some (bs s) then some (minuteI d c) else none) := by
              have h : parseR (bs s) = if timeV (minuteI d c) = some (bs s) then some (minuteI d c) else none := by rw [HQ.out]; simp only [hx1, hy1]; rw [if_pos hd1]
              exact Lib.hid h
            clear hx1 hy1
            simp only [numI]
            go_wp2_with fail
            have em : ((d : Int) - 1) * 1440 + (c : Int) / 100 * 60 + (c : Int) % 100 = minuteI d c := rfl
            rw [em]
            clear em
            generalize minuteI d c = M at *
            refine (ref_PrintTime M _).mono ?_
            rintro e w4 ⟨rfl, h4⟩
            have hn4 := hn1.trans h4
            clear h4 hn1
            cases ht : timeV M with
            | none =>
              have HT := Lib.hid ht
              clear ht
              simp only [errV]
              go_wp2_with fail
              refine bodyPost_ret (v := .tuple #[.int .i64 0, .int .i64 13]) (by simp [results, Tryd.results39, go_sem]) rfl ⟨by rw [HE.out, HT.out]; rfl, hn4⟩
            | some l =>
              have HT := Lib.hid ht
              clear ht
              simp only [errV, textV]
              by_cases hl : l = bs s
              · have hB : B l = s := by rw [hl, B_bs]
                have HL := Lib.hid hl
                clear hl
                rw [hB]
                clear hB
                go_wp2_with fail
                refine bodyPost_ret (v := .tuple #[.int .i64 M, .int .i64 0]) (by simp [results, Tryd.results39, go_sem]) rfl ⟨by rw [HE.out, HT.out, HL.out, if_pos rfl]; rfl, hn4⟩
              · have hB : ((B l).toList == s.toList) = false := by
                  rw [Lib.toList_data, Lib.toList_data, beq_eq_false_iff_ne]
                  intro h
                  exact hl h
                have HL := Lib.hid hl
                clear hl
                go_wp2_with fail
                refine bodyPost_ret (v := .tuple #[.int .i64 0, .int .i64 13]) (by simp [results, Tryd.results39, go_sem]) rfl ⟨by rw [HE.out, HT.out, if_neg (by intro h; injection h with h; exact HL.out h)]; rfl, hn4⟩
        · obtain rfl : d = 0 := by omega
          have HE : Hid (parseR (bs s) = none) := by
            have h : parseR (bs s) = none := by
              rw [HQ.out]
              simp only [hx1]
              cases numR y with
              | none => rfl
              | some c => exact if_neg (by omega)
            exact Lib.hid h
          clear hx1
          have hI : ((numI (some 0) : Int)) = 0 := rfl
          rw [hI]
          generalize numI (numR y) = m
          clear hI
          go_wp2_with fail
          refine bodyPost_ret (v := .tuple #[.int .i64 0, .int .i64 13]) (by simp [results, Tryd.results39, go_sem]) rfl ⟨by rw [HE.out]; rfl, hn1⟩
    · have HE : Hid (parseR (bs s) = none) := by
        have h : parseR (bs s) = none := by
          rw [HQ.out]
          split
          · rename_i x y hxy
            rw [hxy] at h2
            exact absurd rfl h2
          · rfl
        exact Lib.hid h
      have hx : (((piecesL 32 (bs s)).length : Int) != 2) = true := by
        rw [bne_iff_ne]; omega
      go_wp2_with fail
      refine bodyPost_ret (v := .tuple #[.int .i64 0, .int .i64 13]) (by simp [results, Tryd.results39, go_sem]) rfl ⟨by rw [HE.out]; rfl, hn1⟩

end Go.Proofs.YtcaljokcgfkppaaDoor
