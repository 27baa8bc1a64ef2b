/-
  at, one, codes, Code, Char, Family, miss, extra, Miss, Extra of the specification. No condition but short texts.
-/
import Derived.Test.YthodoabppkeidaaGreatDoorCpChar
import Derived.Test.YthodoabppkeidaaGreatDoorCpFams
import Derived.Test.YthodoabppkeidaaGreatDoorCpApart
namespace Go.Proofs.YthodoabppkeidaaGreatDoor
open Go Go.RowKit
/-- What 'at' returns. -/
def atI (b : UInt8) : Int := if keyOf b < 37 then (keyOf b : Nat) else -1
set_option maxRecDepth 100000 in
set_option maxHeartbeats 1000000 in
theorem ref_at (b : UInt8) (w : World) : Calls Tryz.prog 94 #[.int .u8 b.toNat] w fun e w' => e = .returned (.int .i64 (atI b)) ∧ w = w' := by
  have HCI := Lib.hid (fun (k : Nat) (hk : k < 37) => char_index hk)
  generalize hA : atI b = A
  have HAA := Lib.hid hA
  clear hA
  go_enter Tryz.func94, Tryz.ntmps94
  go_wp2_with fail
  go_loopw [3] (fun s3 wr => ∃ i : Nat, i ≤ 37 ∧ s3 = .int .i64 i ∧ (∀ x, x < i → charOf x ≠ b) ∧ wr = w) (fun i _ => 37 - (intOf i).toNat)
  case atStart => exact ⟨0, Nat.zero_le _, rfl, fun x h => by omega, rfl⟩
  case round =>
    obtain ⟨i, hi, rfl, hno, hw⟩ := hrel
    have hw' := hw.symm
    subst hw'
    clear hw
    have HNO := Lib.hid hno
    clear hno
    by_cases hlt : i < 37
    · have hix := HCI.out i hlt
      have i1 : (i : Int) < 37 := by omega
      have i2 : (0 : Int) ≤ (i : Int) := by omega
      by_cases hc : charOf i = b
      · have e1 : A = (i : Int) := by
          rw [← HAA.out, atI, ← hc, key_char hlt, if_pos hlt]
        subst e1
        have h3 : ((charOf i).toNat : Int) = (b.toNat : Int) := by rw [hc]
        clear hc HAA
        generalize (charOf i).toNat = z at *
        go_wp2_with fail
        go_ret
        exact ⟨rfl, rfl⟩
      · have h3 : ¬ (((charOf i).toNat : Int) = (b.toNat : Int)) := fun h => hc (UInt8.toNat_inj.1 (by omega))
        have HCC := Lib.hid hc
        clear hc
        generalize hz : (charOf i).toNat = z at *
        clear hz
        go_wp2_with fail
        refine ⟨⟨i + 1, by omega, by go_num, fun x hx => ?_, trivial⟩, by simp [intOf]; omega⟩
        rcases Nat.lt_succ_iff_lt_or_eq.1 hx with hx | rfl
        · exact HNO.out x hx
        · exact HCC.out
    · obtain rfl : i = 37 := by omega
      have e1 : A = -1 := by
        rw [← HAA.out, atI, if_neg]
        intro hk
        exact HNO.out _ hk (char_key hk)
      subst e1
      go_wp2_with fail
      go_ret
      exact ⟨rfl, rfl⟩
/-- What 'one' returns. -/
def oneI (c : Bytes) : Int := match keyC c with | some k => (k : Nat) | none => -1
set_option maxRecDepth 100000 in
theorem ref_one (c : Bytes) (w : World) (hc : c.length ≤ 1000000) : Calls Tryz.prog 51 #[.string (B c)] w fun e w' => e = .returned (.int .i64 (oneI c)) ∧ w = w' := by
  by_cases h : c.length = 1
  · obtain ⟨b, rfl⟩ := List.length_eq_one_iff.1 h
    have HA := Lib.hid (ref_at b w)
    have e1 : oneI [b] = atI b := by
      unfold oneI atI keyC
      by_cases hk : keyOf b < 37
      · simp only [if_pos hk]
      · simp only [if_neg hk]
    rw [e1]
    clear hc h
    generalize atI b = A at *
    have hs : (B [b]).size = 1 := rfl
    have hx : ∀ w, (Instr.index 9 (.string (B [b])) (.int .i64 0)).run Tryz.prog w = .ok (.int .u8 b.toNat) w := fun w => by
      rw [run_index_string w _ _ _ _ Tryz.underlying9, dif_pos (by omega)]
      rfl
    generalize B [b] = s at *
    go_enter Tryz.func51, Tryz.ntmps51
    go_wp2_with fail
    refine HA.out.mono ?_
    rintro e w' ⟨rfl, rfl⟩
    go_wp2_with fail
    go_ret
    exact ⟨rfl, rfl⟩
  · have e1 : oneI c = -1 := by
      have : keyC c = none := by
        match c, h with
        | [], _ => rfl
        | [_], h => exact absurd rfl h
        | _ :: _ :: _, _ => rfl
      rw [oneI, this]
    rw [e1]
    have hs : ((B c).size : Int) ≠ 1 := by rw [B_size]; omega
    have hs2 : (((B c).size : Int) != 1) = true := by rw [bne_iff_ne]; exact hs
    clear e1 hs
    generalize B c = s at *
    go_enter Tryz.func51, Tryz.ntmps51
    go_wp2_with fail
    go_ret
    exact ⟨rfl, rfl⟩
set_option maxRecDepth 100000 in
set_option maxHeartbeats 1000000 in
theorem ref_codes (w : World) : Calls Tryz.prog 52 #[] w fun e w' => e = .returned (.slice (some ⟨w.heap.size, 0, none⟩) 37 37) ∧ (RowIs w' w.heap.size 9 (codesL.map strV) ∧ New w w') := by
  go_enter Tryz.func52, Tryz.ntmps52
  go_wp2_with fail
  go_ret
  exact ⟨rfl, RowIs.new w 9 (codesL.map strV), (New.refl w).alloc _⟩
theorem oneI_none {c : Bytes} (h : keyC c = none) : oneI c = -1 := by rw [oneI, h]
theorem oneI_some {c : Bytes} {k : Nat} (h : keyC c = some k) : oneI c = (k : Nat) := by rw [oneI, h]
theorem codes_cell {w : World} {g : Nat} (h : RowIs w g 9 (codesL.map strV)) {k : Nat} (hk : k < 37) : w.cell? ⟨g, k, none⟩ = some (.string (B (codeOf k))) := h.cell (by rw [List.getElem?_map, codes_get hk]; rfl)
set_option maxRecDepth 100000 in
theorem ref_Code (c : Bytes) (w : World) (hc : c.length ≤ 1000000) : Calls Tryz.prog 13 #[.string (B c)] w fun e w' =>
    e = .returned (.tuple (match keyC c with | some k => #[strV (codeOf k), .int .i64 0] | none => #[.string ⟨#[]⟩, .int .i64 41])) ∧ New w w' := by
  have HO := Lib.hid (ref_one c w hc)
  have HC := Lib.hid (ref_codes w)
  cases hk : keyC c with
  | none =>
    rw [oneI_none hk] at HO
    clear hk hc
    go_enter Tryz.func13, Tryz.ntmps13
    go_wp2_with fail
    refine HO.out.mono ?_
    rintro e w' ⟨rfl, rfl⟩
    go_wp2_with fail
    go_ret2
    exact ⟨rfl, New.refl _⟩
  | some k =>
    rw [oneI_some hk] at HO
    have h37 := (keyC_lt hk).1
    have i1 : (k : Int) < 37 := by omega
    have i2 : (0 : Int) ≤ (k : Int) := by omega
    unfold strV
    clear hk hc
    go_enter Tryz.func13, Tryz.ntmps13
    go_wp2_with fail
    refine HO.out.mono ?_
    rintro e w' ⟨rfl, rfl⟩
    go_wp2_with fail
    refine HC.out.mono ?_
    rintro e w1 ⟨rfl, hr, hn⟩
    have hcl := codes_cell hr h37
    have HN := Lib.hid hn
    clear hr hn HO HC
    go_wp2_with fail
    go_ret2
    exact ⟨rfl, HN.out⟩
set_option maxRecDepth 100000 in
set_option maxHeartbeats 1000000 in
theorem ref_Char (c : Bytes) (w : World) : Calls Tryz.prog 15 #[.string (B c)] w fun e w' => e = .returned (chrV c) ∧ New w w' := by
  have HC := Lib.hid (ref_codes w)
  generalize hV : chrV c = V
  have HV := Lib.hid hV
  clear hV
  go_enter Tryz.func15, Tryz.ntmps15
  go_wp2_with fail
  refine HC.out.mono ?_
  rintro e w1 ⟨rfl, hr, hn⟩
  have HR := Lib.hid hr
  have HN := Lib.hid hn
  clear hr hn HC
  go_wp2_with fail
  go_loopw [5] (fun s5 wr => ∃ i : Nat, i ≤ 37 ∧ s5 = .int .i64 i ∧ (∀ x, x < i → codeOf x ≠ c) ∧ wr = w1) (fun i _ => 37 - (intOf i).toNat)
  case atStart => exact ⟨0, Nat.zero_le _, rfl, fun x h => by omega, rfl⟩
  case round =>
    obtain ⟨i, hi, rfl, hno, hw⟩ := hrel
    have hw' := hw.symm
    subst hw'
    clear hw
    have HNO := Lib.hid hno
    clear hno
    by_cases hlt : i < 37
    · have hcl := codes_cell HR.out hlt
      have i1 : (i : Int) < 37 := by omega
      have i2 : (0 : Int) ≤ (i : Int) := by omega
      have i3 : IntKind.i64.wrap ((i : Int) + 1) = (i : Int) + 1 := IntWalk.i64_in _ (by omega)
      have hq := bytes_eq (codeOf i) c
      by_cases hc : codeOf i = c
      · have hx := chars_one hlt
        have e1 : V = .tuple #[.string (B [charOf i]), .int .i64 0] := by
          rw [← HV.out, chrV, ← hc, cdX_code hlt, if_pos hlt]
        subst e1
        have HX := Lib.hid hx
        rw [decide_eq_true hc] at hq
        clear hc HV hx
        generalize codeOf i = cd at *
        go_wp2_with fail
        go_ret2
        rw [← HX.out]
        exact ⟨rfl, HN.out⟩
      · have HCC : Hid (∀ x, x < i + 1 → codeOf x ≠ c) := Lib.hid (fun x hx => by
          rcases Nat.lt_succ_iff_lt_or_eq.1 hx with hx | rfl
          · exact HNO.out x hx
          · exact hc)
        rw [decide_eq_false hc] at hq
        clear hc
        generalize codeOf i = cd at *
        go_wp2_with fail
        refine ⟨⟨i + 1, by omega, by go_num, HCC.out, trivial⟩, by simp [intOf]; omega⟩
    · obtain rfl : i = 37 := by omega
      have e1 : V = .tuple #[.string ⟨#[]⟩, .int .i64 3] := by
        rw [← HV.out, chrV, if_neg]
        intro hk
        exact HNO.out _ hk (code_cdX hk)
      subst e1
      go_wp2_with fail
      go_ret2
      exact ⟨rfl, HN.out⟩
/-- The families' numbers as the specification has them, as digits. -/
def famD : Bytes := [50, 49, 49, 49, 49, 51, 49, 50, 52, 50, 50, 51, 51, 51, 54, 49, 53, 55, 51, 49, 53, 49, 53, 51, 52, 49, 54, 54, 53, 49, 54, 52, 55, 51, 50, 52, 55]
theorem famD_fin : ∀ k : Fin 37, famD[k.val]? = some (UInt8.ofNat (49 + famOf famsL k.val)) := by decide +kernel
theorem famD_lt_fin : ∀ k : Fin 37, famOf famsL k.val < 7 := by decide +kernel
theorem famD_lt {k : Nat} (h : k < 37) : famOf famsL k < 7 := famD_lt_fin ⟨k, h⟩
set_option maxRecDepth 100000 in
theorem fam_index {k : Nat} (hk : k < 37) (w : World) : (Instr.index 9 (.string ⟨#[50, 49, 49, 49, 49, 51, 49, 50, 52, 50, 50, 51, 51, 51, 54, 49, 53, 55, 51, 49, 53, 49, 53, 51, 52, 49, 54, 54, 53, 49, 54, 52, 55, 51, 50, 52, 55]⟩) (.int .i64 k)).run Tryz.prog w = .ok (.int .u8 ((49 + famOf famsL k : Nat) : Int)) w := by
  show (Instr.index 9 (.string (B famD)) (.int .i64 k)).run Tryz.prog w = _
  have hs : (B famD).size = 37 := rfl
  rw [run_index_string w _ _ _ _ Tryz.underlying9, dif_pos (by omega)]
  have e : (B famD)[((k : Int)).toNat]'(by rw [hs]; omega) = UInt8.ofNat (49 + famOf famsL k) := by
    have h2 := bs_get (B famD) k (by omega)
    rw [bs_B, famD_fin ⟨k, hk⟩] at h2
    simpa using (Option.some.inj h2).symm
  rw [e]
  have h3 := famD_lt hk
  have e2 : (UInt8.ofNat (49 + famOf famsL k)).toNat = 49 + famOf famsL k := by
    rw [UInt8.toNat_ofNat']
    omega
  rw [e2]
set_option maxRecDepth 100000 in
theorem ref_Family (c : Bytes) (w : World) (hc : c.length ≤ 1000000) : Calls Tryz.prog 17 #[.string (B c)] w fun e w' =>
    e = .returned (.tuple (match keyC c with | some k => #[.int .i64 ((famOf famsL k : Int) + 1), .int .i64 0] | none => #[.int .i64 0, .int .i64 41])) ∧ New w w' := by
  have HO := Lib.hid (ref_one c w hc)
  cases hk : keyC c with
  | none =>
    rw [oneI_none hk] at HO
    clear hk hc
    go_enter Tryz.func17, Tryz.ntmps17
    go_wp2_with fail
    refine HO.out.mono ?_
    rintro e w' ⟨rfl, rfl⟩
    go_wp2_with fail
    go_ret2
    exact ⟨rfl, New.refl _⟩
  | some k =>
    rw [oneI_some hk] at HO
    have h37 := (keyC_lt hk).1
    have hfi := fam_index h37
    have hfl := famD_lt h37
    have i1 : (k : Int) < 37 := by omega
    have i2 : (0 : Int) ≤ (k : Int) := by omega
    have i3 : ((49 + famOf famsL k : Nat) : Int) - 48 = (famOf famsL k : Int) + 1 := by omega
    clear hk hc
    go_enter Tryz.func17, Tryz.ntmps17
    go_wp2_with fail
    refine HO.out.mono ?_
    rintro e w' ⟨rfl, rfl⟩
    go_wp2_with fail
    go_ret2
    refine ⟨?_, New.refl _⟩
    show Ending.returned (.tuple #[.int .i64 (49 + (famOf famsL k : Int) - 48), .int .i64 0]) = _
    rw [show (49 + (famOf famsL k : Int) - 48) = (famOf famsL k : Int) + 1 by omega]
end Go.Proofs.YthodoabppkeidaaGreatDoor
