/-
  Texts and SameTexts of the specification. Condition: the texts are in memory.
-/
import Derived.Test.YtkbdmdnahphkkaaGreatDoorDayTexts
import Derived.Test.YtkbdmdnahphkkaaGreatDoorTabRefP
import Derived.Laws.AppendOwnNone
import Derived.Sort.Walk0
namespace Go.Proofs.YtkbdmdnahphkkaaGreatDoor
open Go.RowKit Go.Sort
theorem put_text {S L : List Bytes} {x : Bytes} {k : Nat} (hS : S = sortT L) (hk : k ≤ S.length) (ha : ∀ y, 0 < k → S[k - 1]? = some y → decide (x < y) = false) (hb : ∀ y ∈ S.drop k, decide (x < y) = true) :
    S.take k ++ x :: S.drop k = sortT (L ++ [x]) := by
  refine sortT_eq (put_perm ?_) (put_sorted ?_ ?_ hb)
  · rw [List.take_append_drop, hS]
    exact List.mergeSort_perm _ _
  · rw [List.take_append_drop, hS]
    exact sortT_sorted _
  · by_cases h0 : k = 0
    · exact .inl (by rw [h0]; rfl)
    · right
      have hlt : k - 1 < S.length := by omega
      refine ⟨S[k - 1], ?_, ha _ (by omega) (List.getElem?_eq_getElem hlt)⟩
      rw [List.getLast?_eq_getElem?, List.length_take, Nat.min_eq_left hk, List.getElem?_take_of_lt (by omega), List.getElem?_eq_getElem hlt]
theorem less_not {x y : Bytes} (h : decide (x < y) = true) : Op.bytesLess (B y).toList (B x).toList = false := by
  rw [bytesLess_eq, Lib.toList_data, Lib.toList_data]
  simp only [decide_eq_true_eq] at h
  exact decide_eq_false (List.not_lt.2 (List.le_of_lt h))
theorem less_ne {x y : Bytes} (h : decide (x < y) = true) : ((B y).toList == (B x).toList) = false := by
  rw [beq_eq_false_iff_ne, Lib.toList_data, Lib.toList_data]
  simp only [decide_eq_true_eq] at h
  simp only [B]
  rintro rfl
  exact List.lt_irrefl _ h
theorem not_less {x y : Bytes} (h : decide (x < y) = false) : Op.bytesLess (B y).toList (B x).toList = true ∨ y = x := by
  rw [bytesLess_eq, Lib.toList_data, Lib.toList_data]
  simp only [decide_eq_false_iff_not] at h
  have h2 : y ≤ x := List.not_lt.1 h
  by_cases he : y = x
  · exact .inr he
  · left
    by_cases hlt : y < x
    · exact decide_eq_true hlt
    · exact (he (List.le_antisymm h2 (List.not_lt.1 hlt))).elim
theorem owns_base {w : World} {base base' : Nat} {e : TypeId} {size : Nat} {v : Value} {n : Nat} {xs : List Value} (h : w.ownsRow base' e size v n xs) (hb : base ≤ base') : w.ownsRow base e size v n xs := by
  refine ⟨h.1, ?_⟩
  rcases h.2 with h2 | ⟨g, cap, cur, rfl, h2, h3⟩
  · exact .inl h2
  · exact .inr ⟨g, cap, cur, rfl, Nat.le_trans hb h2, h3⟩
theorem drop_more {S : List Bytes} {x y : Bytes} {k : Nat} (h : S[k]? = some y) (hy : decide (x < y) = true) (hb : ∀ y ∈ S.drop (k + 1), decide (x < y) = true) : ∀ y ∈ S.drop k, decide (x < y) = true := by
  have hlt : k < S.length := (List.getElem?_eq_some_iff.1 h).1
  intro z hz
  rw [List.drop_eq_getElem_cons hlt] at hz
  rcases List.mem_cons.1 hz with rfl | hz
  · rw [List.getElem?_eq_getElem hlt] at h
    rw [Option.some.inj h]
    exact hy
  · exact hb z hz
set_option maxRecDepth 100000 in
set_option maxHeartbeats 8000000 in
theorem ref_Texts (A : Option Addr) (n c : Nat) (l : List Rw) (cy d : Int) (w : World) (hl : RowsAt w A n l) (hn : n ≤ 9223372036854775807) (ht : TextsIn l) :
    Calls Tryz.prog 20 #[.slice A n c, .int .i64 cy, .int .i64 d] w fun e w' => ∃ v, e = .returned (.tuple #[v, .int .i64 (textsE l cy d)]) ∧ StrsAt w (textsV l cy d) v w' := by
  obtain ⟨i0, hi, hz0, hz1, hz2⟩ := info_parts info_str
  have HL := Lib.hid hl
  have HLN := Lib.hid hl.1
  clear hl
  go_enter Tryz.func20, Tryz.ntmps20
  go_wp2_with fail
  refine (ref_ValidTable A n c l w HL.out hn ht).mono ?_
  rintro e w1 ⟨rfl, h1⟩
  have HN1 := Lib.hid h1
  clear h1
  cases hv : tabB l with
  | false =>
    have HE := Lib.hid (texts_tab (cy := cy) (d := d) hv)
    have HV := Lib.hid (texts_bad HE.out (by decide))
    clear hv
    go_wp2_with fail
    go_ret2
    exact ⟨.slice none 0 0, by rw [HE.out]; rfl, by rw [HV.out]; exact (StrsAt.nil w).keep HN1.out⟩
  | true =>
    have HV := Lib.hid hv
    clear hv
    go_wp2_with fail
    refine (ref_within d 0 99999 _).mono ?_
    rintro e w2 ⟨rfl, rfl⟩
    cases hd : withinB d 0 99999 with
    | false =>
      have HE := Lib.hid (within_day (cy := cy) HV.out hd)
      have HVV := Lib.hid (texts_bad HE.out (by decide))
      clear hd
      go_wp2_with fail
      go_ret2
      exact ⟨.slice none 0 0, by rw [HE.out]; rfl, by rw [HVV.out]; exact (StrsAt.nil w).keep HN1.out⟩
    | true =>
      have HD := Lib.hid hd
      clear hd
      go_wp2_with fail
      refine (ref_within cy 1 65535 _).mono ?_
      rintro e w2 ⟨rfl, rfl⟩
      cases hcy : withinB cy 1 65535 with
      | false =>
        have HE := Lib.hid (within_cy (d := d) HV.out hcy)
        have HVV := Lib.hid (texts_bad HE.out (by decide))
        clear hcy
        go_wp2_with fail
        go_ret2
        exact ⟨.slice none 0 0, by rw [HE.out]; rfl, by rw [HVV.out]; exact (StrsAt.nil w).keep HN1.out⟩
      | true =>
        have HE := Lib.hid (texts_ok HV.out HD.out hcy)
        have HVV := Lib.hid (texts_is HE.out)
        have h4 : n ≤ 400 := by have := rowsB_len (tabB_out HV.out).1; rw [HLN.out] at this; exact this
        clear hcy
        go_wp2_with fail
        go_loopw [8, 9] (fun v x wr => ∃ k : Nat, k ≤ n ∧ x = .int .i64 k ∧ StrsAt w (sortT (tellV (l.take k) cy d)) v wr) (fun _ x _ => n - (intOf x).toNat)
        case atStart => exact ⟨0, by omega, rfl, by rw [show sortT (tellV (l.take 0) cy d) = [] by simp [tellV, sortT]]; exact (StrsAt.nil w).keep HN1.out⟩
        case round =>
          obtain ⟨k, hk, rfl, hst⟩ := hrel
          have HST := Lib.hid hst
          by_cases hlt : k < n
          · obtain ⟨bb, off, r, rfl, hr, -, hrow⟩ := HL.out.row hst.2 hlt
            obtain ⟨rt, rcy, rz, rco, rf, rl, rwh⟩ := r
            obtain ⟨c0, c1, c2, c3, c4, c5, c6⟩ := hrow
            dsimp only at c0 c1 c2 c3 c4 c5 c6
            have HT := Lib.hid hr
            have hq1 : (0 : Int) ≤ (k : Int) := by omega
            have hq2 : (k : Int) < (n : Int) := by omega
            clear hr hst
            cases rwh with
            | true =>
              have HF := Lib.hid (tell_out HT.out (cy := cy) (d := d) rfl)
              go_wp2_with fail
              go_quiet (fail)
              clear c0 c1 c2 c3 c4 c5 c6
              go_wp2_with fail
              exact ⟨⟨k + 1, by omega, rfl, by rw [HF.out]; exact HST.out.keep ((New.refl wr).drewN _)⟩, by simp [intOf]; omega⟩
            | false =>
              by_cases hcy2 : rcy = cy
              · subst hcy2
                cases hfo : withinB d rf rl with
                | false =>
                  have HF := Lib.hid (tell_out HT.out (cy := rcy) (d := d) (by unfold tellB forceB; dsimp only; rw [hfo]; simp))
                  have HW := Lib.hid hfo
                  clear hfo
                  go_wp2_with fail
                  go_quiet ((go_at_call 48; exact quiet_same (ref_within _ _ _ _)))
                  rw [HW.out]
                  clear c0 c1 c2 c3 c4 c5 c6
                  go_wp2_with fail
                  exact ⟨⟨k + 1, by omega, rfl, by rw [HF.out]; exact HST.out.keep ((New.refl wr).drewN _)⟩, by simp [intOf]; omega⟩
                | true =>
                  have HF := Lib.hid (tell_in HT.out (cy := rcy) (d := d) (by unfold tellB forceB; dsimp only; rw [hfo]; simp))
                  have HW := Lib.hid hfo
                  clear hfo
                  go_wp2_with fail
                  go_quiet ((go_at_call 48; exact quiet_same (ref_within _ _ _ _)))
                  rw [HW.out]
                  have htl : (tellV (l.take k) rcy d).length ≤ k := Nat.le_trans (tell_len _ _ _) (by rw [List.length_take]; omega)
                  have hsl := sortT_len (tellV (l.take k) rcy d)
                  have HPT : Hid (∀ j, j ≤ (sortT (tellV (l.take k) rcy d)).length → (∀ y, 0 < j → (sortT (tellV (l.take k) rcy d))[j - 1]? = some y → decide (rt < y) = false) → (∀ y ∈ (sortT (tellV (l.take k) rcy d)).drop j, decide (rt < y) = true) →
                      (sortT (tellV (l.take k) rcy d)).take j ++ rt :: (sortT (tellV (l.take k) rcy d)).drop j = sortT (tellV (l.take (k + 1)) rcy d)) := Lib.hid (fun j hj ha hb => by rw [HF.out]; exact put_text rfl hj ha hb)
                  clear c1 c2 c3 c4 c5 c6 HF
                  generalize sortT (tellV (l.take k) rcy d) = S at *
                  rw [← hsl] at htl
                  clear hsl
                  rcases HST.out.1.2 with ⟨rfl, hz⟩ | ⟨g, cap, cur, rfl, hbase, hb, h1, h2, h3, h5⟩
                  · have hS0 : S = [] := List.eq_nil_of_length_eq_zero (by simpa using hz)
                    subst hS0
                    have hnew := HST.out.2
                    obtain ⟨w3, hw3⟩ : ∃ w3, w3 = wr := ⟨_, rfl⟩
                    subst hw3
                    have hns := hnew.size
                    go_wp2_with fail
                    go_loopw [10] (fun x u => x = .int .i64 0 ∧ New w3 u) (fun _ _ => 0)
                    case atStart => exact ⟨rfl, (New.refl w3).drewN _⟩
                    case round =>
                      obtain ⟨rfl, hu⟩ := hrel
                      have d0 := hu.cellOf c0
                      have husz := hu.size
                      clear c0
                      go_wp2_with fail
                      go_quiet (fail)
                      go_wp2_with (at_builtin; first
                        | refine wpList_append_own_none rfl (.tmp 77) (.tmp 80) 39 rfl w.heap.size 9 i0 1 Tryz.underlying39 hi _ 0 [] rfl (World.ownsRow_nil _ _ _ _) rfl ?_
                        | refine wpList_append_own _ rfl (.tmp 82) (.tmp 88) 39 rfl w.heap.size 9 i0 (.string ⟨#[]⟩) 1 16 Tryz.underlying39 hi hz0 hz1 hz2 rfl (by decide) _ 0 [] rfl (World.ownsRow_nil _ _ _ _) ⟨wr.heap.size, 0, none⟩ 1 1 [strV rt] rfl rfl ?c1 ?c2 ?c3 ?c4 ?c5 ?_)
                      case c1 => exact one_str _ _
                      case c2 => exact one_cell _
                      case c3 => unfold maxLen; omega
                      case c4 => omega
                      case c5 => simp; omega
                      · intro v' w4 hown' hgrow _
                        have hN : New w w4 := (((hnew.trans hu).drewN _).alloc (.cells #[strV rt] 9)).out.grown hgrow (by simp; omega) (fun b hb => by simp [Value.ownBlock] at hb)
                        have R : StrsAt w (sortT (tellV (l.take (k + 1)) rcy d)) v' w4 := by
                          have h := HPT.out 0 (Nat.le_refl _) (fun y h0 => by omega) (by simp)
                          rw [← h]
                          exact ⟨by simpa using hown', hN⟩
                        go_wp2_with (at_builtin; refine wpList_append_own_none rfl (.tmp 90) (.tmp 93) 39 rfl w.heap.size 9 i0 1 Tryz.underlying39 hi _ 1 [strV rt] rfl hown' rfl ?_)
                        exact ⟨⟨k + 1, by omega, rfl, R⟩, by simp [intOf]; omega⟩
                  · have hst2 := HST.out
                    obtain ⟨w3, hw3⟩ : ∃ w3, w3 = wr := ⟨_, rfl⟩
                    subst hw3
                    have hnew := hst2.2
                    have hns := hnew.size
                    have HCS : Hid (∀ j y, S[j]? = some y → w3.cell? ⟨g, j, none⟩ = some (strV y)) := Lib.hid (fun j y hy => by
                      rw [hst2.1.cellAt j (by have := (List.getElem?_eq_some_iff.1 hy).1; omega), List.getElem?_map, hy]
                      rfl)
                    have hg : g < w3.heap.size := (Array.getElem?_eq_some_iff.1 hb).1
                    clear hst2 hb h5
                    go_wp2_with fail
                    go_loopw [10] (fun x u => ∃ j : Nat, j ≤ S.length ∧ x = .int .i64 j ∧ New w3 u ∧ Hid (∀ y ∈ S.drop j, decide (rt < y) = true)) (fun x _ => (intOf x).toNat)
                    case atStart => exact ⟨S.length, Nat.le_refl _, rfl, (New.refl w3).drewN _, Lib.hid (by simp)⟩
                    case round =>
                      obtain ⟨j, hj, rfl, hu, HD2⟩ := hrel
                      have d0 := hu.cellOf c0
                      have husz := hu.size
                      clear c0
                      by_cases hA : ∃ i y, j = i + 1 ∧ S[i]? = some y ∧ decide (rt < y) = true
                      · obtain ⟨i, y, hij, hy, hbl⟩ := hA
                        have hcy4 : wr.cell? ⟨g, i, none⟩ = some (.string (B y)) := hu.cellOf (HCS.out i y hy)
                        have hi2 : (i : Int) < (S.length : Int) := by omega
                        have hi3 : (0 : Int) ≤ (i : Int) := by omega
                        have hj0 : 0 < j := by omega
                        have hwi : IntKind.i64.wrap ((j : Int) - 1) = (i : Int) := by rw [show (j : Int) - 1 = (i : Int) by omega]; exact IntWalk.i64_in _ (by omega)
                        have hwi2 : wrap64 ((j : Int) - 1) = (i : Int) := by rw [show (j : Int) - 1 = (i : Int) by omega]; exact IntWalk.wrap64_in _ (by omega)
                        have hbl2 : Op.bytesLess (B y).toList (B rt).toList = false := less_not hbl
                        have hbl3 : ((B y).toList == (B rt).toList) = false := less_ne hbl
                        have HD3 := Lib.hid (drop_more hy hbl (by rw [← hij]; exact HD2.out))
                        have HIJ := Lib.hid hij
                        clear hbl hij
                        go_wp2_with fail
                        go_quiet (fail)
                        clear hcy4 d0
                        go_wp2_with fail
                        exact ⟨⟨i, by omega, by first | rfl | (congr 1; have := HIJ.out; omega), hu.drewN _, HD3⟩, by have := HIJ.out; simp [intOf]; omega⟩
                      · have R0 := Lib.hid (HPT.out j hj (fun z h0 hz => by
                          cases hq : decide (rt < z) with
                          | false => rfl
                          | true => exact (hA ⟨j - 1, z, by omega, hz, hq⟩).elim) HD2.out)
                        have hcl : (¬ 0 < j) ∨ ∃ i y, j = i + 1 ∧ S[i]? = some y ∧ (Op.bytesLess (B y).toList (B rt).toList = true ∨ y = rt) := by
                          by_cases h0 : 0 < j
                          · refine .inr ⟨j - 1, S[j - 1]'(by omega), by omega, List.getElem?_eq_getElem (by omega), ?_⟩
                            cases hq : decide (rt < S[j - 1]'(by omega)) with
                            | false => exact not_less hq
                            | true => exact (hA ⟨j - 1, _, by omega, List.getElem?_eq_getElem (by omega), hq⟩).elim
                          · exact .inl h0
                        have hjs : (j : Int) ≤ (S.length : Int) := by omega
                        have hj9 : (0 : Int) ≤ (j : Int) := by omega
                        clear hA HD2
                        rcases hcl with h0 | ⟨i, y, hij, hy, hcl2⟩
                        · obtain rfl : j = 0 := by omega
                          go_wp2_with fail
                          go_quiet (fail)
                          go_wp2_with (at_builtin; refine wpList_append_own _ rfl (.tmp 77) (.tmp 80) 39 rfl wr.heap.size 9 i0 (.string ⟨#[]⟩) 1 16 Tryz.underlying39 hi hz0 hz1 hz2 rfl (by decide) _ 0 [] rfl (World.ownsRow_nil _ _ _ _) ⟨g, 0, none⟩ 0 cap [] rfl ?a0 ?a1 ?a2 ?a3 ?a4 ?a5 ?_)
                          case a0 => rfl
                          case a1 => intro t u ht'; cases ht'
                          case a2 => intro u hu'; cases hu'
                          case a3 => unfold maxLen; omega
                          case a4 => omega
                          case a5 => simp
                          · intro v1 w4 hown1 hgrow1 _
                            have HN4 : New wr w4 := ((New.refl wr).drewN nq).out.grown hgrow1 (by simp) (fun b hb => by simp [Value.ownBlock] at hb)
                            have e0 := HN4.cellOf d0
                            have hns4 := HN4.size
                            have hown1 : w4.ownsRow wr.heap.size 9 1 v1 0 [] := by simpa using hown1
                            clear hgrow1 d0
                            go_wp2_with (at_builtin; refine wpList_append_own _ rfl (.tmp 82) (.tmp 88) 39 rfl wr.heap.size 9 i0 (.string ⟨#[]⟩) 1 16 Tryz.underlying39 hi hz0 hz1 hz2 rfl (by decide) _ 0 [] rfl (hown1.alloc _) ⟨w4.heap.size, 0, none⟩ 1 1 [strV rt] rfl rfl ?b1 ?b2 ?b3 ?b4 ?b5 ?_)
                            case b1 => exact one_str _ _
                            case b2 => exact one_cell _
                            case b3 => unfold maxLen; omega
                            case b4 => omega
                            case b5 => simp; omega
                            · intro v2 w5 hown2 hgrow2 _
                              have HN5 : New wr w5 := (HN4.alloc (.cells #[strV rt] 9)).out.grown hgrow2 (by simp; omega) (fun b hb => by simp [Value.ownBlock] at hb)
                              have hns5 := HN5.size
                              clear hgrow2 hown1 e0
                              go_wp2_with (at_builtin; refine wpList_append_own _ rfl (.tmp 90) (.tmp 93) 39 rfl wr.heap.size 9 i0 (.string ⟨#[]⟩) 1 16 Tryz.underlying39 hi hz0 hz1 hz2 rfl (by decide) _ 1 [strV rt] rfl hown2 ⟨g, 0, none⟩ S.length cap (S.map strV) rfl ?d0 ?d1 ?d2 ?d3 ?d4 ?d5 ?_)
                              case d0 => simp
                              case d1 =>
                                intro t u ht'
                                rw [List.getElem?_map] at ht'
                                obtain ⟨y, hy, rfl⟩ : ∃ y, S[t]? = some y ∧ strV y = u := by simpa using ht'
                                have := (hu.trans HN5).cellOf (HCS.out t y hy)
                                rw [Go.WideShapes.add_plain, Nat.zero_add]
                                exact this
                              case d2 =>
                                intro u hu'
                                obtain ⟨y, _, rfl⟩ := List.mem_map.1 hu'
                                rfl
                              case d3 => unfold maxLen; omega
                              case d4 => omega
                              case d5 => omega
                              · intro v3 w6 hown3 hgrow3 _
                                have HN6 : New wr w6 := HN5.out.grown hgrow3 HN5.size (fun b hb => (hown2.lt b hb).1)
                                have R : StrsAt w (sortT (tellV (l.take (k + 1)) rcy d)) v3 w6 := by
                                  refine ⟨?_, hnew.trans (hu.trans HN6)⟩
                                  rw [← R0.out]
                                  have hlen : (S.take 0 ++ rt :: S.drop 0).length = 1 + S.length := by simp; omega
                                  have hmap : (S.take 0 ++ rt :: S.drop 0).map strV = strV rt :: S.map strV := by simp
                                  rw [hlen, hmap]
                                  exact owns_base hown3 (Nat.le_trans hns husz)
                                clear hown3 hgrow3 hown2
                                go_wp2_with fail
                                exact ⟨⟨k + 1, by omega, rfl, R⟩, by simp [intOf]; omega⟩
                        · rcases hcl2 with hbl | hyr
                          case' inl =>
                            have hcy4 : wr.cell? ⟨g, i, none⟩ = some (.string (B y)) := hu.cellOf (HCS.out i y hy)
                            have hi2 : (i : Int) < (S.length : Int) := by omega
                            have hi3 : (0 : Int) ≤ (i : Int) := by omega
                            have hj0 : 0 < j := by omega
                            have hwi : IntKind.i64.wrap ((j : Int) - 1) = (i : Int) := by rw [show (j : Int) - 1 = (i : Int) by omega]; exact IntWalk.i64_in _ (by omega)
                            clear hij
                            go_wp2_with fail
                            go_quiet (fail)
                            clear hcy4 hwi hi2 hi3 hy
                          case' inr =>
                            have hyr2 := hyr.symm
                            subst hyr2
                            clear hyr
                            have hcy4 : wr.cell? ⟨g, i, none⟩ = some (.string (B rt)) := hu.cellOf (HCS.out i rt hy)
                            have hi2 : (i : Int) < (S.length : Int) := by omega
                            have hi3 : (0 : Int) ≤ (i : Int) := by omega
                            have hj0 : 0 < j := by omega
                            have hwi : IntKind.i64.wrap ((j : Int) - 1) = (i : Int) := by rw [show (j : Int) - 1 = (i : Int) by omega]; exact IntWalk.i64_in _ (by omega)
                            clear hij
                            go_wp2_with fail
                            go_quiet (fail)
                            clear hcy4 hwi hi2 hi3 hy
                          all_goals
                            have HJJ := Lib.hid hj
                            go_wp2_with (at_builtin; refine wpList_append_own _ rfl (.tmp 77) (.tmp 80) 39 rfl wr.heap.size 9 i0 (.string ⟨#[]⟩) 1 16 Tryz.underlying39 hi hz0 hz1 hz2 rfl (by decide) _ 0 [] rfl (World.ownsRow_nil _ _ _ _) ⟨g, 0, none⟩ j cap ((S.take j).map strV) rfl ?a0 ?a1 ?a2 ?a3 ?a4 ?a5 ?_)
                            case a0 => simp; omega
                            case a1 =>
                              intro t u ht'
                              rw [List.getElem?_map, List.getElem?_take] at ht'
                              split at ht'
                              · obtain ⟨y, hy, rfl⟩ : ∃ y, S[t]? = some y ∧ strV y = u := by simpa using ht'
                                have := (hu.drewN nq).cellOf (HCS.out t y hy)
                                rw [Go.WideShapes.add_plain, Nat.zero_add]
                                exact this
                              · cases ht'
                            case a2 =>
                              intro u hu'
                              obtain ⟨y, _, rfl⟩ := List.mem_map.1 hu'
                              rfl
                            case a3 => unfold maxLen; omega
                            case a4 => omega
                            case a5 => simp
                            · intro v1 w4 hown1 hgrow1 _
                              have HN4 : New wr w4 := ((New.refl wr).drewN nq).out.grown hgrow1 (by simp) (fun b hb => by simp [Value.ownBlock] at hb)
                              have e0 := HN4.cellOf d0
                              have hns4 := HN4.size
                              have hown1 : w4.ownsRow wr.heap.size 9 1 v1 j ((S.map strV).take j) := by simpa [List.map_take] using hown1
                              clear hgrow1 d0
                              go_wp2_with (at_builtin; refine wpList_append_own _ rfl (.tmp 82) (.tmp 88) 39 rfl wr.heap.size 9 i0 (.string ⟨#[]⟩) 1 16 Tryz.underlying39 hi hz0 hz1 hz2 rfl (by decide) _ j ((S.map strV).take j) rfl (hown1.alloc _) ⟨w4.heap.size, 0, none⟩ 1 1 [strV rt] rfl rfl ?b1 ?b2 ?b3 ?b4 ?b5 ?_)
                              case b1 => exact one_str _ _
                              case b2 => exact one_cell _
                              case b3 => unfold maxLen; omega
                              case b4 => omega
                              case b5 => simp; omega
                              · intro v2 w5 hown2 hgrow2 _
                                have HN5 : New wr w5 := (HN4.alloc (.cells #[strV rt] 9)).out.grown hgrow2 (by simp; omega) (fun b hb => (hown1.lt b hb).1)
                                have hns5 := HN5.size
                                clear hgrow2 hown1 e0
                                by_cases hcj : cap = j
                                · have hSl : S.length = j := by omega
                                  go_wp2_with (at_builtin; refine wpList_append_own _ rfl (.tmp 90) (.tmp 93) 39 rfl wr.heap.size 9 i0 (.string ⟨#[]⟩) 1 16 Tryz.underlying39 hi hz0 hz1 hz2 rfl (by decide) _ (j + 1) ((S.map strV).take j ++ [strV rt]) rfl hown2 _ _ _ ((S.drop j).map strV) rfl ?d0 ?d1 ?d2 ?d3 ?d4 ?d5 ?_)
                                  case d0 => simp; omega
                                  case d1 =>
                                    intro t u ht'
                                    rw [List.drop_eq_nil_of_le (by omega)] at ht'
                                    cases ht'
                                  case d2 =>
                                    intro u hu'
                                    obtain ⟨y, _, rfl⟩ := List.mem_map.1 hu'
                                    rfl
                                  case d3 => unfold maxLen; omega
                                  case d4 => omega
                                  case d5 => omega
                                  · intro v3 w6 hown3 hgrow3 _
                                    have HN6 : New wr w6 := HN5.out.grown hgrow3 HN5.size (fun b hb => (hown2.lt b hb).1)
                                    have R : StrsAt w (sortT (tellV (l.take (k + 1)) rcy d)) v3 w6 := by
                                      refine ⟨?_, hnew.trans (hu.trans HN6)⟩
                                      rw [← R0.out]
                                      have hlen : (S.take j ++ rt :: S.drop j).length = j + 1 := by simp; omega
                                      have hmap : (S.take j ++ rt :: S.drop j).map strV = (S.map strV).take j ++ strV rt :: (S.map strV).drop j := by simp [List.map_take, List.map_drop]
                                      rw [hlen, hmap]
                                      exact owns_base (by simpa [List.map_drop] using hown3) (Nat.le_trans hns husz)
                                    clear hown3 hgrow3 hown2
                                    go_wp2_with fail
                                    exact ⟨⟨k + 1, by omega, rfl, R⟩, by simp [intOf]; omega⟩
                                · go_wp2_with (at_builtin; refine wpList_append_own _ rfl (.tmp 90) (.tmp 93) 39 rfl wr.heap.size 9 i0 (.string ⟨#[]⟩) 1 16 Tryz.underlying39 hi hz0 hz1 hz2 rfl (by decide) _ (j + 1) ((S.map strV).take j ++ [strV rt]) rfl hown2 ⟨g, j, none⟩ (S.length - j) (cap - j) ((S.drop j).map strV) rfl ?f0 ?f1 ?f2 ?f3 ?f4 ?f5 ?_)
                                  case f0 => simp
                                  case f1 =>
                                    intro t u ht'
                                    rw [List.getElem?_map, List.getElem?_drop] at ht'
                                    obtain ⟨y, hy, rfl⟩ : ∃ y, S[j + t]? = some y ∧ strV y = u := by simpa using ht'
                                    have := (hu.trans HN5).cellOf (HCS.out (j + t) y hy)
                                    rw [Go.WideShapes.add_plain]
                                    exact this
                                  case f2 =>
                                    intro u hu'
                                    obtain ⟨y, _, rfl⟩ := List.mem_map.1 hu'
                                    rfl
                                  case f3 => unfold maxLen; omega
                                  case f4 => omega
                                  case f5 => omega
                                  · intro v3 w6 hown3 hgrow3 _
                                    have HN6 : New wr w6 := HN5.out.grown hgrow3 HN5.size (fun b hb => (hown2.lt b hb).1)
                                    have R : StrsAt w (sortT (tellV (l.take (k + 1)) rcy d)) v3 w6 := by
                                      refine ⟨?_, hnew.trans (hu.trans HN6)⟩
                                      rw [← R0.out]
                                      have hlen : (S.take j ++ rt :: S.drop j).length = j + 1 + (S.length - j) := by simp; omega
                                      have hmap : (S.take j ++ rt :: S.drop j).map strV = (S.map strV).take j ++ strV rt :: (S.map strV).drop j := by simp [List.map_take, List.map_drop]
                                      rw [hlen, hmap]
                                      exact owns_base (by simpa [List.map_drop] using hown3) (Nat.le_trans hns husz)
                                    clear hown3 hgrow3 hown2
                                    go_wp2_with fail
                                    exact ⟨⟨k + 1, by omega, rfl, R⟩, by simp [intOf]; omega⟩
              · have hcy3 : (rcy == cy) = false := by rw [beq_eq_false_iff_ne]; exact hcy2
                have HF := Lib.hid (tell_out HT.out (cy := cy) (d := d) (by unfold tellB; simp [hcy2]))
                go_wp2_with fail
                go_quiet (fail)
                clear c0 c1 c2 c3 c4 c5 c6
                go_wp2_with fail
                exact ⟨⟨k + 1, by omega, rfl, by rw [HF.out]; exact HST.out.keep ((New.refl wr).drewN _)⟩, by simp [intOf]; omega⟩
          · obtain rfl : k = n := by omega
            have HTK : Hid (tellV (l.take k) cy d = tellV l cy d) := Lib.hid (by rw [List.take_of_length_le (by rw [HLN.out]; omega)])
            rw [HTK.out] at hst
            have HS2 := Lib.hid hst
            clear hst HST
            go_wp2_with fail
            go_ret2
            exact ⟨_, by rw [HE.out]; rfl, by rw [HVV.out]; exact HS2.out⟩

/-- Two lists of the same texts are told to be the same. -/
theorem ref_SameTexts (a b : World) (l : List Bytes) (v u : Value) (w : World) (hv : StrsAt a l v w) (hu : StrsAt b l u w) (hl : l.length ≤ 100000) :
    Calls Tryz.prog 21 #[v, u] w fun e w' => e = .returned (.bool true) ∧ New w w' := by
  by_cases h0 : l = []
  · subst h0
    rcases hv.1.2 with ⟨rfl, -⟩ | ⟨g, cap, cur, rfl, -⟩ <;> rcases hu.1.2 with ⟨rfl, -⟩ | ⟨g2, cap2, cur2, rfl, -⟩
    all_goals
      clear hv hu
      go_enter Tryz.func21, Tryz.ntmps21
      go_wp2_with fail
      go_loopw [5] (fun x wr => x = .int .i64 0 ∧ New w wr) (fun _ _ => 0)
      case atStart => exact ⟨rfl, New.refl w⟩
      case round =>
        obtain ⟨rfl, hn⟩ := hrel
        go_wp2_with fail
        go_ret
        exact ⟨rfl, hn⟩
  · obtain ⟨g, cap, rfl, -, hg, hc, hcell⟩ := hv.open' h0
    obtain ⟨g2, cap2, rfl, -, hg2, hc2, hcell2⟩ := hu.open' h0
    have HC := Lib.hid hcell
    have HC2 := Lib.hid hcell2
    obtain ⟨n, hn⟩ : ∃ n, l.length = n := ⟨_, rfl⟩
    rw [hn]
    have HLN := Lib.hid hn
    rw [hn] at hl
    clear hv hu hcell hcell2 hc hc2 hn h0
    go_enter Tryz.func21, Tryz.ntmps21
    go_wp2_with fail
    go_loopw [5] (fun x wr => ∃ k : Nat, k ≤ n ∧ x = .int .i64 k ∧ New w wr) (fun x _ => n - (intOf x).toNat)
    case atStart => exact ⟨0, by omega, rfl, New.refl w⟩
    case round =>
      obtain ⟨k, hk, rfl, hnew⟩ := hrel
      by_cases hlt : k < n
      · obtain ⟨y, hy⟩ : ∃ y, l[k]? = some y := ⟨l[k]'(by rw [HLN.out]; exact hlt), List.getElem?_eq_getElem _⟩
        have c1 : wr.cell? ⟨g, k, none⟩ = some (.string (B y)) := hnew.cellOf (HC.out k y hy)
        have c2 : wr.cell? ⟨g2, k, none⟩ = some (.string (B y)) := hnew.cellOf (HC2.out k y hy)
        have hq1 : (0 : Int) ≤ (k : Int) := by omega
        have hq2 : (k : Int) < (n : Int) := by omega
        clear hy
        go_wp2_with fail
        go_quiet (fail)
        clear c1 c2
        go_wp2_with fail
        exact ⟨⟨k + 1, by omega, rfl, hnew.drewN _⟩, by simp [intOf]; omega⟩
      · go_wp2_with fail
        go_ret
        exact ⟨rfl, hnew⟩

end Go.Proofs.YtkbdmdnahphkkaaGreatDoor
