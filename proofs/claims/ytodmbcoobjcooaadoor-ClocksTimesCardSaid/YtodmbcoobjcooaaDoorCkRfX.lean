/-
  The specification: ends, SameSpans, SameTimes, Earliest, Latest; Times, Earliest and Latest of the program, told by functions. Condition: what they ask for lies in memory.
-/
import Derived.Test.YtodmbcoobjcooaaDoorCkRfU
namespace Go.Proofs.YtodmbcoobjcooaaDoor
open Go Go.RowKit Go.Shelf
attribute [local go_sem] Oper.semAt_some
def endB (high : Bool) (x : Spn) : Int := if high then x.2 else x.1
def endR (high : Bool) (l : List (List Spn)) : List (List Int) := l.map fun r => r.map (endB high)
theorem endR_len (high : Bool) (l : List (List Spn)) : (endR high l).length = l.length := by simp [endR]
theorem take_map1 {α β : Type} (f : α → β) (l : List α) {k : Nat} (h : k < l.length) (z : α) : (l.take (k + 1)).map f = (l.take k).map f ++ [f (l[k]?.getD z)] := by
  rw [List.take_succ_eq_append_getElem h, List.map_append, List.getElem?_eq_getElem h]
  rfl
set_option maxRecDepth 100000 in
set_option maxHeartbeats 16000000 in
theorem rf_ends (l : List (List Spn)) (high : Bool) (L : Option Addr) (lc : Nat) (w : World) (hL : SssA w L l) (hl : l.length ≤ 1000) (hr : ∀ i, i < l.length → (l[i]?.getD []).length ≤ 1000) :
    Calls Tryd.prog 82 #[.slice L l.length lc, .bool high] w fun e w' => ∃ B bc, e = .returned (.slice B l.length bc) ∧ New w w' ∧ IssA w' B (endR high l) := by
  have HL := Lib.hid hL
  have HR := Lib.hid hr
  clear hL hr
  obtain ⟨i0, hi0, hz0, hz1, hz2⟩ := info_parts info_int
  obtain ⟨i1, hi1, hy0, hy1, hy2⟩ := info_parts info_ints2
  have HI : Hid ((Tryd.prog.info? 3 = some i0 ∧ i0.zero = some (.int .i64 0) ∧ i0.size = 1 ∧ i0.bytes = 8) ∧ (Tryd.prog.info? 26 = some i1 ∧ i1.zero = some (.slice none 0 0) ∧ i1.size = 1 ∧ i1.bytes = 24)) := Lib.hid ⟨⟨hi0, hz0, hz1, hz2⟩, hi1, hy0, hy1, hy2⟩
  clear hi0 hz0 hz1 hz2 hi1 hy0 hy1 hy2
  have HLE : Hid ((endR high l).length = l.length) := Lib.hid (endR_len high l)
  go_enter Tryd.func82, Tryd.ntmps82
  go_wp2_with fail
  go_loopw [5, 6] (fun V i wr => ∃ k : Nat, k ≤ l.length ∧ i = .int .i64 k ∧ New w wr ∧ AllInI wr w.heap.size V (endR high (l.take k))) (fun _ i _ => l.length - (intOf i).toNat)
  case atStart => exact ⟨0, Nat.zero_le _, rfl, New.refl _, AllInI.nil _ _⟩
  case round =>
    obtain ⟨k, hk, rfl, hn, ha⟩ := hrel
    have HNR := Lib.hid hn
    by_cases hlt : k < l.length
    · have ik : (k : Int) < (l.length : Int) := by omega
      obtain ⟨outs, hoo, hin⟩ := ha
      have hkl : (endR high (l.take k)).length = k := by rw [endR_len, List.length_take]; omega
      rw [hkl] at hoo hin
      have HKL := Lib.hid hkl
      clear hkl
      obtain ⟨VB, vc, rfl⟩ := owns_form hoo
      have HOO := Lib.hid hoo
      have HIN := Lib.hid hin
      have HSU : Hid (endR high (l.take (k + 1)) = endR high (l.take k) ++ [(l[k]?.getD []).map (endB high)]) := Lib.hid (by unfold endR; exact take_map1 _ l hlt [])
      have hrl := HR.out k hlt
      obtain ⟨b, off, rfl, -, hc⟩ := (HL.out.keep hn).2 (by omega)
      have HHD : Hid (∃ B c, ∀ w', New wr w' → w'.cell? ⟨b, off + k, none⟩ = some (.slice B (l[k]?.getD []).length c) ∧ SpsA w' B (l[k]?.getD [])) := Lib.hid (by
        obtain ⟨B, c, h1, h2⟩ := hc k hlt
        exact ⟨B, c, fun w' h => ⟨h.cellOf h1, h2.keep h⟩⟩)
      obtain ⟨B, c, hh⟩ := HHD.out
      have HH := Lib.hid hh
      clear hoo hin hn hc hh HHD
      generalize l[k]?.getD [] = m at *
      go_wp2_with fail
      obtain ⟨wo, hwo⟩ : ∃ wo, wo = wr := ⟨_, rfl⟩
      subst hwo
      go_loopw [7, 8] (fun R i w' => ∃ j : Nat, j ≤ m.length ∧ i = .int .i64 j ∧ New wo w' ∧ w'.ownsRow wo.heap.size 3 1 R j (((m.take j).map (endB high)).map (Value.int .i64))) (fun _ i _ => m.length - (intOf i).toNat)
      case atStart => exact ⟨0, Nat.zero_le _, rfl, New.refl _, World.ownsRow_nil _ _ _ _⟩
      case round =>
        obtain ⟨j, hj, rfl, hnk, how⟩ := hrel
        obtain ⟨LA, rc, rfl⟩ := owns_form how
        have HNK := Lib.hid hnk
        have HOW := Lib.hid how
        obtain ⟨c0, hsp⟩ := HH.out _ hnk
        by_cases hjt : j < m.length
        · have i2 : (j : Int) < (m.length : Int) := by omega
          have HSJ := Lib.hid (take_map1 (endB high) m hjt (0, 0))
          obtain ⟨sb, so, rfl, -, hsc⟩ := hsp.2 (by omega)
          obtain ⟨v0, v1⟩ := hsc j hjt
          clear hnk how hsp hsc
          obtain ⟨xs, hxs⟩ : ∃ xs, ((m.take j).map (endB high)).map (Value.int .i64) = xs := ⟨_, rfl⟩
          replace HOW := Lib.hid (hxs ▸ HOW.out)
          have HXS := Lib.hid hxs
          clear hxs
          generalize hq : m[j]?.getD (0, 0) = q at *
          clear hq
          obtain ⟨lo, hi⟩ := q
          dsimp only at v0 v1
          cases high with
          | false =>
            have ka := (New.refl wr).alloc (.cells #[.int .i64 lo] 3)
            have HKA := Lib.hid ka
            clear ka
            go_wp2_with (at_builtin; go_loud (refine wpList_append_lies _ rfl (.tmp 36) (.tmp 45) 26 rfl wo.heap.size 3 i0 (.int .i64 0) 1 8 under_ints2 HI.out.1.1 HI.out.1.2.1 HI.out.1.2.2.1 HI.out.1.2.2.2 rfl (by decide) (.slice LA j rc) j _ rfl (owns_keep HOW.out HKA.out) ⟨wr.heap.size, 0, none⟩ 1 1 [.int .i64 lo] rfl rfl ?c1 ?c2 (by decide) ?c3 ?c4 ?c5 _ rfl ?_))
            case c1 => exact World.news_of_block (cs := #[.int .i64 lo]) (heap_alloc_new wr _)
            case c2 => simp [Value.oneCell']
            case c3 => unfold maxLen; omega
            case c4 => omega
            case c5 => have := HNK.out.size; simp; omega
            intro g cap w9 ho hg _ _
            have ka := HNK.out.trans HKA.out
            have n9 := Below.trans ka (grown_below (owns_keep HOW.out HKA.out) hg ka.size)
            have HN9 : Hid (New wo w9) := Lib.hid n9
            have HO9 := Lib.hid ho
            clear ka n9 ho hg HOW HNK HKA c0 v0 v1
            go_wp2_with fail
            go_roundw
            case rel => exact ⟨j + 1, by omega, by go_num, HN9.out, by rw [HSJ.out, List.map_append, HXS.out]; exact HO9.out⟩
            case measure => simp [intOf]; omega
          | true =>
            have ka := (New.refl wr).alloc (.cells #[.int .i64 hi] 3)
            have HKA := Lib.hid ka
            clear ka
            go_wp2_with (at_builtin; go_loud (refine wpList_append_lies _ rfl (.tmp 25) (.tmp 34) 26 rfl wo.heap.size 3 i0 (.int .i64 0) 1 8 under_ints2 HI.out.1.1 HI.out.1.2.1 HI.out.1.2.2.1 HI.out.1.2.2.2 rfl (by decide) (.slice LA j rc) j _ rfl (owns_keep HOW.out HKA.out) ⟨wr.heap.size, 0, none⟩ 1 1 [.int .i64 hi] rfl rfl ?c1 ?c2 (by decide) ?c3 ?c4 ?c5 _ rfl ?_))
            case c1 => exact World.news_of_block (cs := #[.int .i64 hi]) (heap_alloc_new wr _)
            case c2 => simp [Value.oneCell']
            case c3 => unfold maxLen; omega
            case c4 => omega
            case c5 => have := HNK.out.size; simp; omega
            intro g cap w9 ho hg _ _
            have ka := HNK.out.trans HKA.out
            have n9 := Below.trans ka (grown_below (owns_keep HOW.out HKA.out) hg ka.size)
            have HN9 : Hid (New wo w9) := Lib.hid n9
            have HO9 := Lib.hid ho
            clear ka n9 ho hg HOW HNK HKA c0 v0 v1
            go_wp2_with fail
            go_roundw
            case rel => exact ⟨j + 1, by omega, by go_num, HN9.out, by rw [HSJ.out, List.map_append, HXS.out]; exact HO9.out⟩
            case measure => simp [intOf]; omega
        · obtain rfl : j = m.length := by omega
          have HTM : Hid (m.take m.length = m) := Lib.hid (List.take_length)
          clear hnk how hsp
          go_wp2_with (at_builtin; go_loud (refine wpList_append_lies _ rfl (.tmp 47) (.tmp 49) 47 rfl w.heap.size 26 i1 (.slice none 0 0) 1 24 under_intss2 HI.out.2.1 HI.out.2.2.1 HI.out.2.2.2.1 HI.out.2.2.2.2 rfl (by decide) (.slice VB k vc) k outs rfl (owns_keep HOO.out (HNK.out.alloc _)) ⟨wr.heap.size, 0, none⟩ 1 1 [.slice LA m.length rc] rfl rfl ?c1 ?c2 (by decide) ?c3 ?c4 ?c5 _ rfl ?_))
          case c1 => exact World.news_of_block (heap_alloc_new _ _)
          case c2 => simp [Value.oneCell']
          case c3 => unfold maxLen; omega
          case c4 => omega
          case c5 => have := (HNR.out.trans HNK.out).size; simp; omega
          intro g cap w7 ho hg _ _
          have ka := HNK.out.alloc (.cells #[.slice LA m.length rc] 26)
          have kb := (New.refl wr).alloc (.cells #[.slice LA m.length rc] 26)
          have how := HOW.out
          rw [HTM.out] at how
          have hao := AllInI.push (rows := endR high (l.take k)) (row := m.map (endB high)) (by rw [HKL.out]; exact owns_keep HOO.out ka) (fun i hi => by
            rw [HKL.out] at hi
            obtain ⟨u, a1, a2⟩ := HIN.out i hi
            exact ⟨u, a1, owns_keep a2 ka⟩) hg (by rw [HKL.out]; exact ho) (by
            rw [List.length_map]
            exact owns_base (owns_keep how kb) HNR.out.size)
          have n7 := Below.trans (HNR.out.trans ka) (grown_below (owns_keep HOO.out ka) hg (HNR.out.trans ka).size)
          have HN7 : Hid (New w w7) := Lib.hid n7
          rw [← HSU.out] at hao
          have HAO := Lib.hid hao
          clear ka kb n7 ho hg hao how c0
          go_wp2_with fail
          go_roundw
          case rel => exact ⟨k + 1, by omega, by go_num, HN7.out, HAO.out⟩
          case measure => simp [intOf]; omega
    · obtain rfl : k = l.length := by omega
      rw [List.take_length] at ha
      obtain ⟨B, bc, rfl, hss⟩ := ha.iss
      have HSS := Lib.hid hss
      clear ha hss hn
      go_wp2_with fail
      go_ret
      exact ⟨B, bc, by rw [HLE.out]; try rfl, HNR.out, HSS.out⟩
set_option maxRecDepth 100000 in
set_option maxHeartbeats 8000000 in
theorem rf_SameSpans (l : List (List Spn)) (L K : Option Addr) (lc kc : Nat) (w : World) (hL : SssA w L l) (hK : SssA w K l) :
    Calls Tryd.prog 34 #[.slice L l.length lc, .slice K l.length kc] w fun e w' => e = .returned (.bool true) ∧ New w w' := by
  have HL := Lib.hid hL
  have HK := Lib.hid hK
  have hll := hL.1
  clear hL hK
  go_enter Tryd.func34, Tryd.ntmps34
  go_wp2_with fail
  go_loopw [5] (fun i wr => ∃ k : Nat, k ≤ l.length ∧ i = .int .i64 k ∧ New w wr) (fun i _ => l.length - (intOf i).toNat)
  case atStart => exact ⟨0, Nat.zero_le _, rfl, New.refl _⟩
  case round =>
    obtain ⟨k, hk, rfl, hn⟩ := hrel
    have HNR := Lib.hid hn
    by_cases hlt : k < l.length
    · have ik : (k : Int) < (l.length : Int) := by omega
      obtain ⟨b, off, rfl, -, hc⟩ := (HL.out.keep hn).2 (by omega)
      obtain ⟨B, bc, z0, hB⟩ := hc k hlt
      obtain ⟨b2, off2, rfl, -, hc2⟩ := (HK.out.keep hn).2 (by omega)
      obtain ⟨B2, bc2, z1, hB2⟩ := hc2 k hlt
      have HB1 := Lib.hid hB
      have HB2 := Lib.hid hB2
      have hml := hB.1
      clear hc hc2 hn hB hB2
      generalize l[k]?.getD [] = m at *
      go_wp2_with fail
      go_quiet (fail)
      dsimp only [Exit.then]
      have HNQ := Lib.hid ((New.refl wr).drewN nq)
      have HZ0 := Lib.hid (HNQ.out.cellOf z0)
      have HZ1 := Lib.hid (HNQ.out.cellOf z1)
      clear z0 z1
      generalize wr.drewN nq = wo at *
      go_wp2_with fail
      go_loopw [6] (fun i w' => ∃ j : Nat, j ≤ m.length ∧ i = .int .i64 j ∧ New wo w') (fun i _ => m.length - (intOf i).toNat)
      case atStart => exact ⟨0, Nat.zero_le _, rfl, New.refl _⟩
      case round =>
        obtain ⟨j, hj, rfl, hnk⟩ := hrel
        have HNK := Lib.hid hnk
        have y0 := hnk.cellOf HZ0.out
        have y1 := hnk.cellOf HZ1.out
        by_cases hjt : j < m.length
        · have i2 : (j : Int) < (m.length : Int) := by omega
          obtain ⟨c1, o1, rfl, -, h1⟩ := (HB1.out.keep (HNQ.out.trans hnk)).2 (by omega)
          obtain ⟨c2, o2, rfl, -, h2⟩ := (HB2.out.keep (HNQ.out.trans hnk)).2 (by omega)
          obtain ⟨u0, u1⟩ := h1 j hjt
          obtain ⟨v0, v1⟩ := h2 j hjt
          generalize hq : m[j]?.getD (0, 0) = q at *
          clear hq
          obtain ⟨lo, hi⟩ := q
          dsimp only at u0 u1 v0 v1
          clear h1 h2 hnk
          go_wp2_with fail
          go_quiet (fail)
          dsimp only [Exit.then]
          have HNZ := Lib.hid (HNK.out.trans ((New.refl _).drewN nq))
          clear y0 y1 u0 u1 v0 v1
          go_wp2_with fail
          go_roundw
          case rel => exact ⟨j + 1, by omega, by go_num, HNZ.out⟩
          case measure => simp [intOf]; omega
        · obtain rfl : j = m.length := by omega
          clear hnk
          go_wp2_with fail
          go_roundw
          case rel => exact ⟨k + 1, by omega, by go_num, HNR.out.trans (HNQ.out.trans HNK.out)⟩
          case measure => simp [intOf]; omega
    · obtain rfl : k = l.length := by omega
      clear hn
      go_wp2_with fail
      go_ret
      exact ⟨rfl, HNR.out⟩
set_option maxRecDepth 100000 in
set_option maxHeartbeats 8000000 in
theorem rf_SameTimes (l : List (List Int)) (L K : Option Addr) (lc kc : Nat) (w : World) (hL : IssA w L l) (hK : IssA w K l) :
    Calls Tryd.prog 35 #[.slice L l.length lc, .slice K l.length kc] w fun e w' => e = .returned (.bool true) ∧ New w w' := by
  have HL := Lib.hid hL
  have HK := Lib.hid hK
  have hll := hL.1
  clear hL hK
  go_enter Tryd.func35, Tryd.ntmps35
  go_wp2_with fail
  go_loopw [5] (fun i wr => ∃ k : Nat, k ≤ l.length ∧ i = .int .i64 k ∧ New w wr) (fun i _ => l.length - (intOf i).toNat)
  case atStart => exact ⟨0, Nat.zero_le _, rfl, New.refl _⟩
  case round =>
    obtain ⟨k, hk, rfl, hn⟩ := hrel
    have HNR := Lib.hid hn
    by_cases hlt : k < l.length
    · have ik : (k : Int) < (l.length : Int) := by omega
      obtain ⟨b, off, rfl, -, hc⟩ := (HL.out.keep hn).2 (by omega)
      obtain ⟨B, bc, z0, hB⟩ := hc k hlt
      obtain ⟨b2, off2, rfl, -, hc2⟩ := (HK.out.keep hn).2 (by omega)
      obtain ⟨B2, bc2, z1, hB2⟩ := hc2 k hlt
      have HB1 := Lib.hid hB
      have HB2 := Lib.hid hB2
      have hml := hB.1
      clear hc hc2 hn hB hB2
      generalize l[k]?.getD [] = m at *
      go_wp2_with fail
      go_quiet (fail)
      dsimp only [Exit.then]
      have HNQ := Lib.hid ((New.refl wr).drewN nq)
      have HZ0 := Lib.hid (HNQ.out.cellOf z0)
      have HZ1 := Lib.hid (HNQ.out.cellOf z1)
      clear z0 z1
      generalize wr.drewN nq = wo at *
      go_wp2_with fail
      go_loopw [6] (fun i w' => ∃ j : Nat, j ≤ m.length ∧ i = .int .i64 j ∧ New wo w') (fun i _ => m.length - (intOf i).toNat)
      case atStart => exact ⟨0, Nat.zero_le _, rfl, New.refl _⟩
      case round =>
        obtain ⟨j, hj, rfl, hnk⟩ := hrel
        have HNK := Lib.hid hnk
        have y0 := hnk.cellOf HZ0.out
        have y1 := hnk.cellOf HZ1.out
        by_cases hjt : j < m.length
        · have i2 : (j : Int) < (m.length : Int) := by omega
          obtain ⟨c1, o1, rfl, -, h1⟩ := (HB1.out.keep (HNQ.out.trans hnk)).2 (by omega)
          obtain ⟨c2, o2, rfl, -, h2⟩ := (HB2.out.keep (HNQ.out.trans hnk)).2 (by omega)
          have u0 := h1 j hjt
          have v0 := h2 j hjt
          generalize hq : m[j]?.getD 0 = q at *
          clear hq
          clear h1 h2 hnk
          go_wp2_with fail
          go_quiet (fail)
          dsimp only [Exit.then]
          have HNZ := Lib.hid (HNK.out.trans ((New.refl _).drewN nq))
          clear y0 y1 u0 v0
          go_wp2_with fail
          go_roundw
          case rel => exact ⟨j + 1, by omega, by go_num, HNZ.out⟩
          case measure => simp [intOf]; omega
        · obtain rfl : j = m.length := by omega
          clear hnk
          go_wp2_with fail
          go_roundw
          case rel => exact ⟨k + 1, by omega, by go_num, HNR.out.trans (HNQ.out.trans HNK.out)⟩
          case measure => simp [intOf]; omega
    · obtain rfl : k = l.length := by omega
      clear hn
      go_wp2_with fail
      go_ret
      exact ⟨rfl, HNR.out⟩
end Go.Proofs.YtodmbcoobjcooaaDoor
