/-
  Chain of the specification: the kept places. Condition: at most 1000000 numbers, in memory.
-/
import Derived.Test.YthodoabppkeidaaDoorCpRefM
import Derived.Deep.CutRange
import Derived.Deep.AppendLies
namespace Go.Proofs.YthodoabppkeidaaDoor
open Go Go.RowKit
theorem own_at {w : World} {base n c : Nat} {A : Option Addr} {cs : List Value} (h : w.ownsRow base 3 1 (.slice A n c) n cs) (hn : cs.length = n) (h0 : 0 < n) :
    ∃ kb ko, A = some ⟨kb, ko, none⟩ ∧ kb < w.heap.size ∧ ∀ j v, cs[j]? = some v → w.cell? ⟨kb, ko + j, none⟩ = some v := by
  subst hn
  have hsl := owns_sl h
  rw [SlAt] at hsl
  obtain ⟨KA', KC', hke, -, -, hkc⟩ := hsl
  obtain ⟨kb, ko, rfl, kl, kc⟩ := hkc h0
  simp only [Value.slice.injEq, true_and] at hke
  obtain ⟨rfl, rfl⟩ := hke
  exact ⟨kb, ko, rfl, kl, kc⟩
set_option maxHeartbeats 1000000 in
theorem ref_serials (l : List Int) (v : Value) (w : World) (hv : IntsAt w v l) (hl : l.length ≤ 1000000) : Calls Tryd.prog 37 #[v] w fun e w' => e = .returned (.int .i64 (serE l)) ∧ w = w' := by
  have HV := Lib.hid hv
  obtain ⟨A, c, rfl, b1, b2⟩ := hv.form
  clear hv
  by_cases h4 : 400 < l.length
  · have e1 : serE l = 2 := if_pos h4
    rw [e1]
    have i1 : (400 : Int) < (l.length : Int) := by omega
    go_enter Tryd.func37, Tryd.ntmps37
    go_wp2_with fail
    go_ret
    exact ⟨rfl, rfl⟩
  · have i1 : ¬ ((400 : Int) < (l.length : Int)) := by omega
    go_enter Tryd.func37, Tryd.ntmps37
    go_wp2_with fail
    go_loopw [3] (fun s3 wr => ∃ j : Nat, j ≤ l.length ∧ s3 = .int .i64 j ∧ (∀ x ∈ l.take j, 0 ≤ x ∧ x ≤ 99999) ∧ wr = w) (fun i _ => l.length - (intOf i).toNat)
    case atStart => exact ⟨0, by omega, rfl, by simp, rfl⟩
    case round =>
      obtain ⟨j, hj, rfl, hk, hw⟩ := hrel
      have hw' := hw.symm
      subst hw'
      clear hw
      have HK := Lib.hid hk
      clear hk
      by_cases hlt : j < l.length
      · obtain ⟨b, off, rfl, -, hc⟩ := ints_cell HV.out (by omega)
        have hcj := hc j hlt
        have hmem : l[j] ∈ l := List.getElem_mem hlt
        have htk : l.take (j + 1) = l.take j ++ [l[j]] := List.take_succ_eq_append_getElem hlt
        have HTK := Lib.hid htk
        have i2 : (j : Int) < (l.length : Int) := by omega
        clear hc htk
        by_cases hx : 0 ≤ l[j] ∧ l[j] ≤ 99999
        · have HXX := Lib.hid hx
          have n1 : ¬ (l[j] < 0) := by omega
          have n2 : ¬ (99999 < l[j]) := by omega
          clear hx
          generalize l[j] = x at *
          go_wp2_with fail
          go_roundw
          case rel =>
            refine ⟨j + 1, by omega, by go_num, fun y hy => ?_, trivial⟩
            rw [HTK.out] at hy
            rcases List.mem_append.1 hy with h | h
            · exact HK.out y h
            · rw [List.mem_singleton] at h; rw [h]; exact HXX.out
          case measure => simp [intOf]; omega
        · have e1 : serE l = 1 := by
            rw [serE, if_neg h4, if_neg]
            intro h
            exact hx (serB_iff.1 h _ hmem)
          have HE1 := Lib.hid e1
          by_cases hx2 : l[j] < 0
          · clear hx e1
            generalize l[j] = x at *
            go_wp2_with fail
            go_ret
            exact ⟨by rw [HE1.out]; rfl, rfl⟩
          · have hx3 : 99999 < l[j] := by omega
            clear hx e1
            generalize l[j] = x at *
            go_wp2_with fail
            go_ret
            exact ⟨by rw [HE1.out]; rfl, rfl⟩
      · obtain rfl : j = l.length := by omega
        have e1 : serE l = 0 := by
          rw [serE, if_neg h4, if_pos]
          rw [serB_iff]
          have := HK.out
          rwa [List.take_length] at this
        have HE1 := Lib.hid e1
        clear e1
        go_wp2_with fail
        go_ret
        exact ⟨by rw [HE1.out]; rfl, rfl⟩
/-- The sizes behind a place, in the row of the specification. -/
def bstF (l : List Int) (k x : Nat) : Int := if k ≤ x then (bst l x : Nat) else 0
def refF (l : List Int) (i j x : Nat) : Int := if x = i then (refM l i j : Nat) else if i < x then (bst l x : Nat) else 0
theorem bstF_start {l : List Int} (hl : l.length ≤ 1000) : rowG (l.length + 1) (fun _ => 0) = rowG (l.length + 1) (bstF l l.length) :=
  rowG_congr fun x hx => by
    unfold bstF
    split
    · obtain rfl : x = l.length := by omega
      rw [bst_end hl]; rfl
    · rfl
theorem bstF_zero {l : List Int} {i : Nat} (h : bst l i = 0) : rowG (l.length + 1) (bstF l (i + 1)) = rowG (l.length + 1) (bstF l i) :=
  rowG_congr fun x _ => by
    unfold bstF
    by_cases e : x = i
    · subst e; rw [if_neg (by omega), if_pos (by omega), h]; rfl
    · by_cases h2 : i + 1 ≤ x
      · rw [if_pos h2, if_pos (by omega)]
      · rw [if_neg h2, if_neg (by omega)]
theorem refF_start (l : List Int) (i : Nat) : (rowG (l.length + 1) (bstF l (i + 1))).set i (.int .i64 1) = rowG (l.length + 1) (refF l i (i + 1)) :=
  rowG_set (by rw [refF, if_pos rfl, refM_start]; rfl) fun x _ hne => by
    unfold refF bstF
    rw [if_neg hne]
    by_cases h2 : i + 1 ≤ x
    · rw [if_pos h2, if_pos (by omega)]
    · rw [if_neg h2, if_neg (by omega)]
theorem refF_next (l : List Int) (i j m : Nat) (hm : refM l i (j + 1) = m) : (rowG (l.length + 1) (refF l i j)).set i (.int .i64 m) = rowG (l.length + 1) (refF l i (j + 1)) :=
  rowG_set (by rw [refF, if_pos rfl, hm]) fun x _ hne => by
    unfold refF
    rw [if_neg hne, if_neg hne]
theorem refF_same {l : List Int} {i j : Nat} (hm : refM l i (j + 1) = refM l i j) : rowG (l.length + 1) (refF l i j) = rowG (l.length + 1) (refF l i (j + 1)) :=
  rowG_congr fun x _ => by
    unfold refF
    rw [hm]
theorem refF_end {l : List Int} {i : Nat} (h : refM l i l.length = bst l i) : rowG (l.length + 1) (refF l i l.length) = rowG (l.length + 1) (bstF l i) :=
  rowG_congr fun x _ => by
    unfold refF bstF
    by_cases e : x = i
    · subst e; rw [if_pos rfl, if_pos (Nat.le_refl _), h]
    · rw [if_neg e]
      by_cases h2 : i < x
      · rw [if_pos h2, if_pos (by omega)]
      · rw [if_neg h2, if_neg (by omega)]
set_option maxRecDepth 100000 in
set_option maxHeartbeats 4000000 in
theorem ref_Chain (l : List Int) (v : Value) (w : World) (hv : IntsAt w v l) (hl : l.length ≤ 1000000) : Calls Tryd.prog 13 #[v] w fun e w' =>
    ∃ v', e = .returned (.tuple #[v', .int .i64 (serE l)]) ∧ (w'.ownsRow w.heap.size 3 1 v' (keptC l).length (natsV (keptC l)) ∧ New w w') := by
  have HS := Lib.hid (ref_serials l v w hv hl)
  have HV := Lib.hid hv
  obtain ⟨A, c, rfl, b1, b2⟩ := hv.form
  clear hv
  by_cases he : serE l = 0
  · obtain ⟨h1, h2⟩ := serE_ok he
    have e1 : keptC l = keptI l := if_pos he
    rw [e1]
    rw [he] at HS ⊢
    clear he e1
    have HB := Lib.hid h2
    clear h2
    have hmk : ∀ W, (Instr.makeSlice 25 (.int .i64 ((l.length : Int) + 1)) (.int .i64 ((l.length : Int) + 1))).run Tryd.prog W = .ok (.slice (some ⟨W.heap.size, 0, none⟩) (l.length + 1) (l.length + 1)) (W.alloc (.cells (Array.replicate (l.length + 1) (Value.int .i64 0)) 3)) := fun W => by
      have := make_ints (l.length + 1) (by omega) W
      rw [show ((l.length + 1 : Nat) : Int) = (l.length : Int) + 1 by omega] at this
      exact this
    go_enter Tryd.func13, Tryd.ntmps13
    go_wp2_with fail
    refine HS.out.mono ?_
    rintro e w' ⟨rfl, rfl⟩
    go_wp2_with fail
    have k1 := (New.refl w).alloc (.cells (Array.replicate (l.length + 1) (Value.int .i64 0)) 3)
    have r1 := RowIs.zeros w 3 (l.length + 1) (.int .i64 0)
    rw [rowG_zero, bstF_start (l := l) (by omega)] at r1
    have HR1 := Lib.hid r1
    have hs1 : (w.alloc (.cells (Array.replicate (l.length + 1) (Value.int .i64 0)) 3)).heap.size = w.heap.size + 1 := by simp
    have HK1 := Lib.hid k1
    clear r1 k1 hmk
    generalize w.alloc (.cells (Array.replicate (l.length + 1) (Value.int .i64 0)) 3) = w1 at *
    go_loopw [7] (fun s7 wr => ∃ k : Nat, k ≤ l.length ∧ s7 = .int .i64 ((k : Int) - 1) ∧ RowIs wr w.heap.size 3 (rowG (l.length + 1) (bstF l k)) ∧ New w wr) (fun i _ => (intOf i + 1).toNat)
    case atStart => exact ⟨l.length, Nat.le_refl _, rfl, HR1.out, HK1.out⟩
    case round =>
      obtain ⟨k, hk, rfl, hrow, hn⟩ := hrel
      have HRW := Lib.hid hrow
      have HN := Lib.hid hn
      clear hrow hn
      by_cases hk0 : 0 < k
      · obtain ⟨i, rfl⟩ : ∃ i, k = i + 1 := ⟨k - 1, by omega⟩
        have hi : i < l.length := by omega
        have ei : ((i + 1 : Nat) : Int) - 1 = (i : Int) := by omega
        rw [ei]
        obtain ⟨lb, lo, rfl, llt, lc⟩ := ints_low HV.out (by omega)
        have LC : Hid (∀ w', New w w' → ∀ x (hx : x < l.length), w'.cell? ⟨lb, lo + x, none⟩ = some (.int .i64 l[x])) := Lib.hid (fun w' hn x hx => (hn.cell (p := ⟨lb, lo + x, none⟩) llt).trans (lc x hx))
        have x1 := LC.out wr HN.out i hi
        have hli := HB.out _ (List.getElem_mem hi)
        have i1 : (i : Int) < (l.length : Int) := by omega
        have i2 : (0 : Int) ≤ (i : Int) := by omega
        have i3 : IntKind.i64.wrap ((i : Int) + 1) = (i : Int) + 1 := IntWalk.i64_in _ (by omega)
        have i4 : IntKind.i64.wrap ((l.length : Int) - 1) = (l.length : Int) - 1 := IntWalk.i64_in _ (by omega)
        have i5 : IntKind.i64.wrap ((l.length : Int) - 1 - (i : Int)) = (l.length : Int) - 1 - (i : Int) := IntWalk.i64_in _ (by omega)
        have i6 : IntKind.i64.wrap (99999 - ((l.length : Int) - 1 - (i : Int))) = 99999 - ((l.length : Int) - 1 - (i : Int)) := IntWalk.i64_in _ (by omega)
        clear lc
        by_cases ha : l[i] < (i : Int) + 1
        · have HZ := Lib.hid (bstF_zero (bst_no hi (.inl ha)))
          generalize l[i] = z at *
          go_wp2_with fail
          refine ⟨⟨i, by omega, by go_num, by rw [← HZ.out]; exact HRW.out, HN.out⟩, by simp [intOf] <;> omega⟩
        · by_cases hb : 99999 - ((l.length : Int) - 1 - (i : Int)) < l[i]
          · have HZ := Lib.hid (bstF_zero (bst_no hi (.inr hb)))
            generalize l[i] = z at *
            go_wp2_with fail
            refine ⟨⟨i, by omega, by go_num, by rw [← HZ.out]; exact HRW.out, HN.out⟩, by simp [intOf] <;> omega⟩
          · have o0 := (ok0 hi).2 (by omega)
            have o9 := (ok9 hi).2 (by omega)
            have OO := Lib.hid (And.intro o0 o9)
            clear o0 o9
            have f1 := HRW.out.free i
            have c1 := HRW.out.cell (rowG_at (bstF l (i + 1)) (show i < l.length + 1 by omega))
            have hp := HRW.out.put i (.int .i64 1)
            rw [refF_start] at hp
            have HP := Lib.hid hp
            have i7 : (i : Int) < ((l.length + 1 : Nat) : Int) := by omega
            clear hp
            generalize hzi : l[i] = zi at *
            go_wp2_with fail
            go_loopw [8] (fun s8 wx => ∃ j : Nat, i < j ∧ j ≤ l.length ∧ s8 = .int .i64 j ∧ RowIs wx w.heap.size 3 (rowG (l.length + 1) (refF l i j)) ∧ New w wx) (fun i _ => l.length - (intOf i).toNat)
            case atStart => exact ⟨i + 1, by omega, by omega, rfl, HP.out, HN.out.setCell (Nat.le_refl _) _⟩
            case round =>
              obtain ⟨j, hij, hj, rfl, hrow, hn⟩ := hrel
              have HRX := Lib.hid hrow
              have HNX := Lib.hid hn
              clear hrow hn
              by_cases hlt : j < l.length
              · have y1 := LC.out wr HNX.out i hi
                have y2 := LC.out wr HNX.out j hlt
                have lj := HB.out _ (List.getElem_mem hlt)
                rw [hzi] at y1
                have c2 := HRX.out.cell (rowG_at (refF l i j) (show j < l.length + 1 by omega))
                have c3 := HRX.out.cell (rowG_at (refF l i j) (show i < l.length + 1 by omega))
                have f3 := HRX.out.free i
                rw [refF, if_neg (by omega), if_pos hij] at c2
                rw [refF, if_pos rfl] at c3
                have j1 : (j : Int) < (l.length : Int) := by omega
                have j2 : (j : Int) < ((l.length + 1 : Nat) : Int) := by omega
                have j3 : IntKind.i64.wrap (l[j] - zi) = l[j] - zi := IntWalk.i64_in _ (by omega)
                have j4 : IntKind.i64.wrap ((j : Int) - (i : Int)) = (j : Int) - (i : Int) := IntWalk.i64_in _ (by omega)
                have hm1 := refM_le (l := l) (i := i) (j := j)
                have hb1 := bst_le (l := l) (i := j)
                have j5 : IntKind.i64.wrap ((bst l j : Int) + 1) = (bst l j : Int) + 1 := IntWalk.i64_in _ (by omega)
                have HST : Hid (∀ (m : Nat) (z : Int), refM l i (j + 1) = m → z = (m : Int) → ∀ wz, New wr wz → RowIs (wz.setCell ⟨w.heap.size, i, none⟩ (.int .i64 z)) w.heap.size 3 (rowG (l.length + 1) (refF l i (j + 1)))) := Lib.hid (fun m z hm hz wz hn => by
                  have := (HRX.out.keep hn).put i (.int .i64 m)
                  rw [refF_next l i j m hm] at this
                  rw [hz]; exact this)
                have HSA : Hid (refM l i (j + 1) = refM l i j → RowIs wr w.heap.size 3 (rowG (l.length + 1) (refF l i (j + 1)))) := Lib.hid (fun hm => by
                  rw [← refF_same hm]; exact HRX.out)
                by_cases g1 : 0 < bst l j
                · by_cases g2 : (j : Int) - i ≤ l[j] - zi
                  · have HY := Lib.hid (refM_yes hij hlt g1 (by rw [hzi]; exact g2))
                    have d1 : decide ((0 : Int) < (bst l j : Int)) = true := decide_eq_true (by omega)
                    have d2 : decide ((j : Int) - (i : Int) ≤ l[j] - zi) = true := decide_eq_true g2
                    have g3 : (0 : Int) < (bst l j : Int) := by omega
                    generalize bst l j = bj at *
                    generalize refM l i j = mij at *
                    generalize l[j] = z at *
                    go_upto_region 14 with fail
                    go_quiet (fail)
                    go_wp2_with fail
                    go_region
                    all_goals
                      go_wp2_with fail
                      refine ⟨⟨j + 1, by omega, by omega, by go_num, HST.out _ _ HY.out (by omega) _ ((New.refl _).drewN _), (HNX.out.drewN _).setCell (Nat.le_refl _) _⟩, by simp [intOf] <;> omega⟩
                  · have HY := Lib.hid (refM_no hij hlt OO.out.1 (by rw [hzi]; exact fun h => g2 h.2))
                    have d1 : decide ((0 : Int) < (bst l j : Int)) = true := decide_eq_true (by omega)
                    have d2 : decide ((j : Int) - (i : Int) ≤ l[j] - zi) = false := decide_eq_false g2
                    have g3 : (0 : Int) < (bst l j : Int) := by omega
                    have HRN := Lib.hid (HSA.out HY.out)
                    generalize bst l j = bj at *
                    generalize refM l i j = mij at *
                    generalize l[j] = z at *
                    go_upto_region 14 with fail
                    go_quiet (fail)
                    go_wp2_with fail
                    refine ⟨⟨j + 1, by omega, by omega, by go_num, HRN.out.keep ((New.refl _).drewN _), HNX.out.drewN _⟩, by simp [intOf] <;> omega⟩
                · have HY := Lib.hid (refM_no hij hlt OO.out.1 (by rw [hzi]; exact fun h => g1 h.1))
                  have d1 : decide ((0 : Int) < (bst l j : Int)) = false := decide_eq_false (by omega)
                  have g3 : ¬ ((0 : Int) < (bst l j : Int)) := by omega
                  have HRN := Lib.hid (HSA.out HY.out)
                  generalize bst l j = bj at *
                  generalize refM l i j = mij at *
                  generalize l[j] = z at *
                  go_upto_region 14 with fail
                  go_quiet (fail)
                  go_wp2_with fail
                  refine ⟨⟨j + 1, by omega, by omega, by go_num, HRN.out.keep ((New.refl _).drewN _), HNX.out.drewN _⟩, by simp [intOf] <;> omega⟩
              · obtain rfl : j = l.length := by omega
                have hre := refM_end hi OO.out.1 OO.out.2
                have hr2 := HRX.out
                rw [refF_end hre] at hr2
                have HR2 := Lib.hid hr2
                clear hr2 hre
                go_wp2_with fail
                refine ⟨⟨i, by omega, by go_num, HR2.out, HNX.out⟩, by simp [intOf] <;> omega⟩
      · obtain rfl : k = 0 := by omega
        rw [show ((0 : Nat) : Int) - 1 = -1 from rfl]
        go_wp2_with fail
        go_loopw [10, 9] (fun s10 s9 wx => ∃ j : Nat, j ≤ l.length ∧ s10 = .int .i64 j ∧ s9 = .int .i64 (mostN l j : Nat) ∧ wx = wr) (fun i _ _ => l.length - (intOf i).toNat)
        case atStart => exact ⟨0, by omega, rfl, rfl, rfl⟩
        case round =>
          obtain ⟨j, hj, rfl, rfl, hw⟩ := hrel
          subst hw
          by_cases hlt : j < l.length
          · have c2 := HRW.out.cell (rowG_at (bstF l 0) (show j < l.length + 1 by omega))
            rw [bstF, if_pos (Nat.zero_le _)] at c2
            have j1 : (j : Int) < (l.length : Int) := by omega
            have j2 : (j : Int) < ((l.length + 1 : Nat) : Int) := by omega
            have HM : Hid (mostN l (j + 1) = max (mostN l j) (bst l j)) := Lib.hid rfl
            generalize bst l j = bj at *
            generalize mostN l j = mj at *
            go_wp2_with fail
            refine ⟨⟨j + 1, by omega, by go_num, by rw [HM.out]; go_num, trivial⟩, by simp [intOf] <;> omega⟩
          · obtain rfl : j = l.length := by omega
            have hmost := mostN_lt (l := l) (n := l.length)
            have HG0 := Lib.hid (Grd.start (l := l) (by omega))
            have hgl : Hid (∀ i p out, Grd l i p out → (szL (mkA l) (l.length + 1) p).1 + out.length = mostN l l.length + 1) := Lib.hid (fun i p out h => h.size)
            generalize hmo : mostN l l.length = most at *
            have HMO := Lib.hid hmo
            clear hmo
            go_wp2_with fail
            obtain ⟨i0, hi0, hz0, hz1, hz2⟩ := info_parts info_int
            have HI := Lib.hid (And.intro hi0 (And.intro hz0 (And.intro hz1 hz2)))
            clear hi0 hz0 hz1 hz2
            have hsw := HN.out.size
            have hlg := HRW.out.lt
            have HW := Lib.hid HN.out
            have HRB := Lib.hid HRW.out
            obtain ⟨W2, hW2⟩ : ∃ W2, W2 = wr := ⟨_, rfl⟩
            subst hW2
            go_loopw [12, 11] (fun s12 s11 wx => ∃ (i p : Nat) (out : List Nat), i ≤ l.length ∧ s12 = .int .i64 i ∧ Grd l i p out ∧ wx.ownsRow W2.heap.size 3 1 s11 out.length (natsV out) ∧ New W2 wx) (fun i _ _ => l.length - (intOf i).toNat)
            case atStart => exact ⟨0, 0, [], by omega, rfl, HG0.out, World.ownsRow_nil _ _ _ _, New.refl _⟩
            case round =>
              obtain ⟨i, p, out, hi, rfl, hg, hown, hn⟩ := hrel
              obtain ⟨PA, PC, rfl⟩ := owns_form hown
              have HG := Lib.hid hg
              have HOW := Lib.hid hown
              have HNW := Lib.hid hn
              clear hn hg
              have hsx := HNW.out.size
              by_cases hlt : i < l.length
              · have c2 := (HRB.out.keep HNW.out).cell (rowG_at (bstF l 0) (show i < l.length + 1 by omega))
                rw [bstF, if_pos (Nat.zero_le _)] at c2
                obtain ⟨lb, lo, rfl, llt, lc⟩ := ints_low HV.out (by omega)
                have HLC : Hid (∀ x (hx : x < l.length), wr.cell? ⟨lb, lo + x, none⟩ = some (.int .i64 l[x])) := Lib.hid (fun x hx => ((HW.out.trans HNW.out).cell (p := ⟨lb, lo + x, none⟩) llt).trans (lc x hx))
                have x1 := HLC.out i hlt
                have j1 : (i : Int) < (l.length : Int) := by omega
                have j2 : (i : Int) < ((l.length + 1 : Nat) : Int) := by omega
                have hbl := bst_le (l := l) (i := i)
                have hol : out.length ≤ most + 1 := by have := HG.out.len; rwa [HMO.out] at this
                have j3 : IntKind.i64.wrap ((most : Int) - (out.length : Int)) = (most : Int) - (out.length : Int) := IntWalk.i64_in _ (by omega)
                have j4 : IntKind.i64.wrap ((out.length : Int) - 1) = (out.length : Int) - 1 := IntWalk.i64_in _ (by omega)
                clear lc hown
                by_cases hc1 : 0 < bst l i
                · by_cases hc2 : bst l i + out.length = most
                  · have d1 : decide ((0 : Int) < (bst l i : Int)) = true := decide_eq_true (by omega)
                    have d2 : ((bst l i : Int) == (most : Int) - (out.length : Int)) = true := by rw [beq_iff_eq]; omega
                    have g1 : (0 : Int) < (bst l i : Int) := by omega
                    obtain ⟨b1', b2'⟩ := (bst_pos hlt).1 hc1
                    have HBB := Lib.hid (And.intro b1' b2')
                    have HSKN : Hid (i + 1 ≠ (szL (mkA l) (l.length + 1) p).2 → okS (mkA l) p (i + 1) = true → False) := Lib.hid (fun he ho => (HG.out.skip hlt he).2 ⟨hc1, by rw [HMO.out]; exact hc2, ho⟩)
                    clear b1' b2'
                    rcases HG.out.last with ⟨ho, hp⟩ | ⟨o, ho, hp⟩
                    · have hoz : out.length = 0 := by rw [ho]; rfl
                      have HTK : Hid (Grd l (i + 1) (i + 1) (out ++ [i])) := Lib.hid (by
                        by_cases he : i + 1 = (szL (mkA l) (l.length + 1) p).2
                        · exact (HG.out.take hlt he).1
                        · exact (HSKN.out he (by rw [hp]; exact HBB.out.1)).elim)
                      have d3 : decide ((out.length : Int) - 1 < 0) = true := decide_eq_true (by omega)
                      have g3 : (out.length : Int) - 1 < 0 := by omega
                      clear ho hp hoz
                      generalize bst l i = bi at *
                      generalize l[i] = z at *
                      go_upto_region 26 with fail
                      go_quiet (fail)
                      go_wp2_with (at_builtin; go_loud (refine wpList_append_lies _ rfl (.tmp 152) (.tmp 154) 25 rfl W2.heap.size 3 i0 (.int .i64 0) 1 8 Tryd.underlying25 HI.out.1 HI.out.2.1 HI.out.2.2.1 HI.out.2.2.2 rfl (by decide) (.slice PA out.length PC) out.length (natsV out) rfl (owns_keep HOW.out (((New.refl wr).drewN _).alloc _)) ⟨_, 0, none⟩ 1 1 [.int .i64 (i : Int)] rfl rfl ?c1 ?c2 (by decide) ?c3 ?c4 ?c5 _ rfl ?_))
                      case c1 => first | exact World.news_of_block (heap_alloc_new _ _) | (intro j u hj; cases j with | zero => simpa [Addr.add] using World.news_of_block (heap_alloc_new (wr.drewN nq) (.cells #[.int .i64 (i : Int)] 3)) 0 u hj | succ j => simp at hj)
                      case c2 => simp [Value.oneCell']
                      case c3 => unfold maxLen; omega
                      case c4 => omega
                      case c5 => first | omega | (simp; omega)
                      intro g cap w4 ho hg _ _
                      have HO4 := Lib.hid ho
                      have HN4 := Lib.hid (Below.trans (HNW.out.trans (((New.refl wr).drewN _).alloc _)) (grown_below (owns_keep HOW.out (((New.refl wr).drewN _).alloc _)) hg (Nat.le_trans hsx (((New.refl wr).drewN _).alloc _).size)))
                      clear ho hg
                      go_wp2_with fail
                      go_roundw
                      case rel =>
                        refine ⟨i + 1, i + 1, out ++ [i], by omega, by go_num, HTK.out, ?_, HN4.out⟩
                        rw [List.length_append, List.length_singleton, natsV, List.map_append]
                        exact HO4.out
                      case measure => simp [intOf] <;> omega
                    · obtain ⟨q, rfl⟩ : ∃ q, p = q + 1 := ⟨p - 1, by omega⟩
                      rw [Nat.add_sub_cancel] at ho
                      have hol2 : out.length = o.length + 1 := by rw [ho]; simp
                      have hqi : q < i := by have := HG.out.lt; omega
                      have hql : q < l.length := by omega
                      have x2 := HLC.out q hql
                      obtain ⟨kb, ko, rfl, kl, kc⟩ := own_at HOW.out (natsV_len _) (by omega)
                      have x3 : wr.cell? ⟨kb, ko + (out.length - 1), none⟩ = some (.int .i64 (q : Nat)) := by
                        refine kc _ _ ?_
                        rw [natsV, List.getElem?_map, ho, List.length_append, List.length_singleton, Nat.add_sub_cancel, List.getElem?_concat_length]
                        rfl
                      have hz1 := HB.out _ (List.getElem_mem hlt)
                      have hz2 := HB.out _ (List.getElem_mem hql)
                      have j5 : IntKind.i64.wrap (l[i] - l[q]) = l[i] - l[q] := IntWalk.i64_in _ (by omega)
                      have j6 : IntKind.i64.wrap ((i : Int) - (q : Int)) = (i : Int) - (q : Int) := IntWalk.i64_in _ (by omega)
                      have d3 : decide ((out.length : Int) - 1 < 0) = false := decide_eq_false (by omega)
                      have g3 : ¬ ((out.length : Int) - 1 < 0) := by omega
                      have j7 : ((out.length : Int) - 1).toNat = out.length - 1 := by omega
                      have j8 : 0 ≤ (out.length : Int) - 1 := by omega
                      have j9 : (out.length : Int) - 1 < (out.length : Int) := by omega
                      have j10 : (q : Int) < (l.length : Int) := by omega
                      have hok := ok1 (l := l) hql hlt
                      have HOK := Lib.hid hok
                      clear kc hok ho hol2
                      by_cases hc4 : (i : Int) - (q : Int) ≤ l[i] - l[q]
                      · have HTK : Hid (Grd l (i + 1) (i + 1) (out ++ [i])) := Lib.hid (by
                          by_cases he : i + 1 = (szL (mkA l) (l.length + 1) (q + 1)).2
                          · exact (HG.out.take hlt he).1
                          · exact (HSKN.out he (HOK.out.2 hc4)).elim)
                        have d4 : decide ((i : Int) - (q : Int) ≤ l[i] - l[q]) = true := decide_eq_true hc4
                        generalize bst l i = bi at *
                        generalize l[i] = z at *
                        generalize l[q] = y at *
                        go_upto_region 26 with fail
                        go_quiet (fail)
                        go_wp2_with (at_builtin; go_loud (refine wpList_append_lies _ rfl (.tmp 152) (.tmp 154) 25 rfl W2.heap.size 3 i0 (.int .i64 0) 1 8 Tryd.underlying25 HI.out.1 HI.out.2.1 HI.out.2.2.1 HI.out.2.2.2 rfl (by decide) (.slice (some ⟨kb, ko, none⟩) out.length PC) out.length (natsV out) rfl (owns_keep HOW.out (((New.refl wr).drewN _).alloc _)) ⟨_, 0, none⟩ 1 1 [.int .i64 (i : Int)] rfl rfl ?c1 ?c2 (by decide) ?c3 ?c4 ?c5 _ rfl ?_))
                        case c1 => first | exact World.news_of_block (heap_alloc_new _ _) | (intro j u hj; cases j with | zero => simpa [Addr.add] using World.news_of_block (heap_alloc_new (wr.drewN nq) (.cells #[.int .i64 (i : Int)] 3)) 0 u hj | succ j => simp at hj)
                        case c2 => simp [Value.oneCell']
                        case c3 => unfold maxLen; omega
                        case c4 => omega
                        case c5 => first | omega | (simp; omega)
                        intro g cap w4 ho hg _ _
                        have HO4 := Lib.hid ho
                        have HN4 := Lib.hid (Below.trans (HNW.out.trans (((New.refl wr).drewN _).alloc _)) (grown_below (owns_keep HOW.out (((New.refl wr).drewN _).alloc _)) hg (Nat.le_trans hsx (((New.refl wr).drewN _).alloc _).size)))
                        clear ho hg
                        go_wp2_with fail
                        go_roundw
                        case rel =>
                          refine ⟨i + 1, i + 1, out ++ [i], by omega, by go_num, HTK.out, ?_, HN4.out⟩
                          rw [List.length_append, List.length_singleton, natsV, List.map_append]
                          exact HO4.out
                        case measure => simp [intOf] <;> omega
                      · have HSK : Hid (Grd l (i + 1) (q + 1) out) := Lib.hid (by
                          by_cases he : i + 1 = (szL (mkA l) (l.length + 1) (q + 1)).2
                          · have hx := nx_at (a := mkA l) (last := l.length + 1) (i := q + 1) (by omega) HG.out.o9
                            have h5 := hx.ok
                            rw [← he] at h5
                            exact absurd (HOK.out.1 h5) hc4
                          · exact (HG.out.skip hlt he).1)
                        have d4 : decide ((i : Int) - (q : Int) ≤ l[i] - l[q]) = false := decide_eq_false hc4
                        generalize bst l i = bi at *
                        generalize l[i] = z at *
                        generalize l[q] = y at *
                        go_upto_region 26 with fail
                        go_quiet (fail)
                        go_wp2_with fail
                        refine ⟨⟨i + 1, q + 1, out, by omega, by go_num, HSK.out, owns_keep HOW.out ((New.refl _).drewN _), HNW.out.drewN _⟩, by simp [intOf] <;> omega⟩
                  · have HSK : Hid (Grd l (i + 1) p out) := Lib.hid (by
                      by_cases he : i + 1 = (szL (mkA l) (l.length + 1) p).2
                      · exact absurd (by have := (HG.out.take hlt he).2.2; rwa [HMO.out] at this) hc2
                      · exact (HG.out.skip hlt he).1)
                    have d1 : decide ((0 : Int) < (bst l i : Int)) = true := decide_eq_true (by omega)
                    have d2 : ((bst l i : Int) == (most : Int) - (out.length : Int)) = false := by rw [beq_eq_false_iff_ne]; omega
                    have g1 : (0 : Int) < (bst l i : Int) := by omega
                    have g2 : ¬ ((bst l i : Int) = (most : Int) - (out.length : Int)) := by omega
                    generalize bst l i = bi at *
                    generalize l[i] = z at *
                    go_upto_region 26 with fail
                    go_quiet (fail)
                    go_wp2_with fail
                    refine ⟨⟨i + 1, p, out, by omega, by go_num, HSK.out, owns_keep HOW.out ((New.refl _).drewN _), HNW.out.drewN _⟩, by simp [intOf] <;> omega⟩
                · have HSK : Hid (Grd l (i + 1) p out) := Lib.hid (by
                    by_cases he : i + 1 = (szL (mkA l) (l.length + 1) p).2
                    · exact absurd (HG.out.take hlt he).2.1 hc1
                    · exact (HG.out.skip hlt he).1)
                  have d1 : decide ((0 : Int) < (bst l i : Int)) = false := decide_eq_false (by omega)
                  have g1 : ¬ ((0 : Int) < (bst l i : Int)) := by omega
                  generalize bst l i = bi at *
                  generalize l[i] = z at *
                  go_upto_region 26 with fail
                  go_quiet (fail)
                  go_wp2_with fail
                  refine ⟨⟨i + 1, p, out, by omega, by go_num, HSK.out, owns_keep HOW.out ((New.refl _).drewN _), HNW.out.drewN _⟩, by simp [intOf] <;> omega⟩
              · obtain rfl : i = l.length := by omega
                have hd := HG.out.done
                subst hd
                go_wp2_with fail
                go_ret2
                exact ⟨_, rfl, owns_base HOW.out HW.out.size, HW.out.trans HNW.out⟩
  · have e1 : keptC l = [] := if_neg he
    rw [e1]
    have hE : (serE l != 0) = true := by rw [bne_iff_ne]; exact he
    generalize serE l = E at *
    go_enter Tryd.func13, Tryd.ntmps13
    go_wp2_with fail
    refine HS.out.mono ?_
    rintro e w' ⟨rfl, rfl⟩
    go_wp2_with fail
    go_ret2
    exact ⟨_, rfl, World.ownsRow_nil _ _ _ _, New.refl _⟩
end Go.Proofs.YthodoabppkeidaaDoor
