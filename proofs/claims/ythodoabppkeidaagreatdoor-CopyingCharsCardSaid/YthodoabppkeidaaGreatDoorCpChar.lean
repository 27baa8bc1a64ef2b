/-
  keysByCode, Char of the program: the character with a code. Condition: the tables lie in memory.
-/
import Derived.Test.YthodoabppkeidaaGreatDoorCpCode
import Derived.Maps.OwnSet
namespace Go.Proofs.YthodoabppkeidaaGreatDoor
open Go Go.RowKit Go.Maps Go.WideMaps
theorem str_law : Keyed Tryz.prog 9 := string_keyed Tryz.underlying9
theorem zero_key (w : World) : (zeroValue 66).run Tryz.prog w = .ok (.int .i64 0) w := by kernel_rfl
/-- The map of the first codes. -/
def cmD : Nat → DataW Unit
  | 0 => .map []
  | k + 1 => (cmD k).put (.string (codeOf k)) (.lit (.int .i64 k))
theorem cmD_isMap : ∀ k, IsMap (cmD k)
  | 0 => isMap_empty
  | k + 1 => (cmD_isMap k).put _ _
/-- The key of a code; 37: there is none. -/
def cdX (c : Bytes) : Nat := codesL.idxOf c
theorem cdX_code_fin : ∀ k : Fin 37, cdX (codeOf k.val) = k.val := by decide +kernel
theorem cdX_code {k : Nat} (h : k < 37) : cdX (codeOf k) = k := cdX_code_fin ⟨k, h⟩
theorem cdX_le (c : Bytes) : cdX c ≤ 37 := List.idxOf_le_length
theorem code_cdX {c : Bytes} (h : cdX c < 37) : codeOf (cdX c) = c := by
  have h' : codesL.idxOf c < codesL.length := h
  rw [codeOf, List.getD_eq_getElem?_getD, cdX, List.getElem?_eq_getElem h']
  exact List.getElem_idxOf h'
theorem cmD_at (c : Bytes) : ∀ n, n ≤ 37 → (cmD n).atKey (.string c) (.lit (.int .i64 0)) = .lit (.int .i64 (if cdX c < n then (cdX c : Nat) else 0)) ∧ Maps.has (cmD n) (.string c) = decide (cdX c < n)
  | 0, _ => ⟨by rw [if_neg (Nat.not_lt_zero _)]; rfl, by rw [decide_eq_false (Nat.not_lt_zero _)]; rfl⟩
  | n + 1, h => by
    rw [cmD]
    by_cases hc : c = codeOf n
    · subst hc
      have e := cdX_code (show n < 37 by omega)
      rw [atKey_put_same (cmD_isMap n) (show WideAt.IsKeyLit (.string (codeOf n)) from trivial), has_put_same (cmD_isMap n) (show WideAt.IsKeyLit (.string (codeOf n)) from trivial), e, if_pos (Nat.lt_succ_self _), decide_eq_true (Nat.lt_succ_self _)]
      exact ⟨rfl, rfl⟩
    · have hne : (Lit.string c) ≠ .string (codeOf n) := fun h2 => hc (by injection h2)
      obtain ⟨h1, h2⟩ := cmD_at c n (by omega)
      have e : cdX c ≠ n := fun h3 => hc (by rw [← h3, code_cdX (by omega)])
      rw [atKey_put_other hne, has_put_other hne, h1, h2]
      by_cases hl : cdX c < n
      · rw [if_pos hl, if_pos (by omega), decide_eq_true hl, decide_eq_true (by omega)]
        exact ⟨rfl, rfl⟩
      · rw [if_neg hl, if_neg (by omega), decide_eq_false hl, decide_eq_false (by omega)]
        exact ⟨rfl, rfl⟩
set_option maxRecDepth 100000 in
set_option maxHeartbeats 1000000 in
theorem cp_keysByCode (F : List Bytes) (w : World) (hT : TabAt w F) : Calls Tryz.prog 53 #[] w fun e w' => e = .returned (.map (some w.heap.size)) ∧ w'.ownsMap Tryz.prog 9 (plainElem Tryz.prog 66) w.heap.size 37 (cmD 37) ∧ New w w' := by
  have hmm := @run_makeMap Tryz.prog
  have HT := Lib.hid hT
  have hsz : (Tryz.prog.info? 69).map (·.size) = some (codesL.map strV).toArray.size := by kernel_rfl
  have HS := Lib.hid hsz
  have HM := Lib.hid (World.ownsMap_made w Tryz.prog 9 (plainElem (H := Unit) Tryz.prog 66))
  have HN := Lib.hid ((New.refl w).alloc (.map #[] 0))
  clear hT hsz
  obtain ⟨t, hc⟩ := (HT.out.keep HN.out).1
  have HC := Lib.hid hc
  clear hc
  go_enter Tryz.func53, Tryz.ntmps53
  go_wp2_with (refine wpList_load_row rfl 69 (.global 0) rfl 0 rfl t (codesL.map strV).toArray (0, 0) _ HC.out Tryz.underlying69 rfl HS.out ?_)
  go_loopw [6] (fun i wr => ∃ j : Nat, j ≤ 37 ∧ i = .int .i64 j ∧ wr.ownsMap Tryz.prog 9 (plainElem Tryz.prog 66) w.heap.size j (cmD j) ∧ New w wr) (fun i _ => 37 - (intOf i).toNat)
  case atStart => exact ⟨0, by omega, rfl, HM.out, HN.out⟩
  case round =>
    obtain ⟨j, hj, rfl, hm, hn⟩ := hrel
    have HMJ := Lib.hid hm
    have HNJ := Lib.hid hn
    clear hm hn
    by_cases hlt : j < 37
    · have hix : ∀ w, (Instr.index 69 (.agg (codesL.map strV).toArray) (.int .i64 j)).run Tryz.prog w = .ok (.string (B (codeOf j))) w :=
        run_index_agg Tryz.underlying69 _ j (by omega) Tryz.sizeOf9 Tryz.isAgg9 _ (by rw [List.getElem?_toArray, List.getElem?_map, codes_get hlt]; rfl)
      have hkey : Go.keyOf Tryz.prog 9 (.string (B (codeOf j))) = some (.string (codeOf j)) := by
        have := keyOf_string_mk Tryz.underlying9 (s := B (codeOf j)) (by rw [B_size]; have := code_len hlt; unfold maxLen; omega)
        rwa [show (B (codeOf j)).data.toList = codeOf j from bs_B _] at this
      have i1 : (j : Int) < 37 := by omega
      have HKEY := Lib.hid hkey
      clear hkey
      go_wp2_with (at_mapUpdate; go_loud (refine wpList_mapUpdate_own _ rfl _ _ _ 73 rfl 9 66 str_law Tryz.underlying73 _ w.heap.size _ _ rfl HMJ.out (by unfold maxLen; omega) _ _ _ rfl rfl HKEY.out _ [] (plainElem_int Tryz.underlying66 (WalkArith.wf_i64 (by omega))) ?_))
      intro w1 hown1 hgrow1
      have HO1 := Lib.hid hown1
      have HN1 := Lib.hid (Below.grown HNJ.out hgrow1 HNJ.out.size (fun k hk => by cases hk; exact Nat.le_refl _))
      clear hown1 hgrow1
      go_wp2_with fail
      refine ⟨⟨j + 1, by omega, by go_num, HO1.out, HN1.out⟩, by simp [intOf] <;> omega⟩
    · obtain rfl : j = 37 := by omega
      go_wp2_with fail
      go_ret
      exact ⟨rfl, HMJ.out, HNJ.out⟩
theorem chars_one {k : Nat} (h : k < 37) : (⟨#[65, 66, 67, 68, 69, 70, 71, 72, 73, 74, 75, 76, 77, 78, 79, 80, 81, 82, 83, 84, 85, 86, 87, 88, 89, 90, 48, 49, 50, 51, 52, 53, 54, 55, 56, 57, 47]⟩ : ByteArray).extract k (k + 1) = B [charOf k] := by
  show (B chars).extract k (k + 1) = _
  have hs : k < (B chars).size := h
  rw [extract_one _ _ hs]
  have h2 := bs_get (B chars) k hs
  rw [bs_B, chars_get h] at h2
  rw [← Option.some.inj h2]
/-- What Char returns. -/
def chrV (c : Bytes) : Value := if cdX c < 37 then .tuple #[.string (B [charOf (cdX c)]), .int .i64 0] else .tuple #[.string ⟨#[]⟩, .int .i64 3]
set_option maxRecDepth 100000 in
set_option maxHeartbeats 1000000 in
theorem cp_Char (F : List Bytes) (c : Bytes) (w : World) (hT : TabAt w F) (hc : c.length ≤ 1000000) : Calls Tryz.prog 14 #[.string (B c)] w fun e w' => e = .returned (chrV c) ∧ New w w' := by
  have HK := Lib.hid (cp_keysByCode F w hT)
  have hkey : Go.keyOf Tryz.prog 9 (.string (B c)) = some (.string c) := by
    have := keyOf_string_mk Tryz.underlying9 (s := B c) (by rw [B_size]; unfold maxLen; omega)
    rwa [show (B c).data.toList = c from bs_B _] at this
  have HKEY := Lib.hid hkey
  have HAT := Lib.hid (cmD_at c 37 (Nat.le_refl _))
  clear hkey hT
  unfold chrV
  by_cases h : cdX c < 37
  · rw [if_pos h]
    rw [if_pos h, decide_eq_true h] at HAT
    have hx := chars_one h
    have i1 : IntKind.i64.wrap ((cdX c : Int) + 1) = (cdX c : Int) + 1 := IntWalk.i64_in _ (by omega)
    have i2 : (0 : Int) ≤ (cdX c : Int) := by omega
    generalize cdX c = k at *
    have HX := Lib.hid hx
    clear hx
    go_enter Tryz.func14, Tryz.ntmps14
    go_wp2_with fail
    refine HK.out.mono ?_
    rintro e w1 ⟨rfl, hm, hn⟩
    have HM1 := Lib.hid hm
    have HN1 := Lib.hid hn
    clear hm hn
    go_wp2_with (at_lookup; go_loud (refine wpList_lookup_own_ok_int _ rfl _ _ 73 rfl 9 66 .i64 str_law Tryz.underlying73 Tryz.underlying66 (zero_key _) w.heap.size _ _ rfl HM1.out _ _ rfl HKEY.out ?_))
    intro z hz _
    rw [HAT.out.1] at hz
    obtain rfl : (k : Int) = z := by injection hz with hz; injection hz
    rw [HAT.out.2]
    clear hz
    go_wp2_with fail
    go_ret2
    rw [← HX.out]
    exact ⟨rfl, HN1.out⟩
  · rw [if_neg h]
    rw [if_neg h, decide_eq_false h] at HAT
    generalize cdX c = k at *
    go_enter Tryz.func14, Tryz.ntmps14
    go_wp2_with fail
    refine HK.out.mono ?_
    rintro e w1 ⟨rfl, hm, hn⟩
    have HM1 := Lib.hid hm
    have HN1 := Lib.hid hn
    clear hm hn
    go_wp2_with (at_lookup; go_loud (refine wpList_lookup_own_ok_int _ rfl _ _ 73 rfl 9 66 .i64 str_law Tryz.underlying73 Tryz.underlying66 (zero_key _) w.heap.size _ _ rfl HM1.out _ _ rfl HKEY.out ?_))
    intro z hz _
    rw [HAT.out.2]
    clear hz
    go_wp2_with fail
    go_ret2
    exact ⟨rfl, HN1.out⟩
end Go.Proofs.YthodoabppkeidaaGreatDoor
