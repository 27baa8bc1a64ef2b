/-
  The specification: minute, sum. Condition: what they ask for lies in memory.
  The specification: Keeps. Condition: the system and the times lie in memory.
  The specification: chained. Condition: the system and the bounds lie in memory, the system is valid.
-/
import Derived.Test.YtodmbcoobjcooaaDoorCkMoms
import Derived.Test.YtodmbcoobjcooaaDoorCkRf
import Derived.Test.YtodmbcoobjcooaaDoorCkKeeps
import Derived.Test.YtodmbcoobjcooaaDoorCkSpans
import Derived.Test.YtodmbcoobjcooaaDoorCkFind
import Derived.Test.YtodmbcoobjcooaaDoorCkRfB
namespace Go.Proofs.YtodmbcoobjcooaaDoor
open Go Go.RowKit Go.Shelf
attribute [local go_sem] Oper.semAt_some
set_option maxRecDepth 100000 in
set_option maxHeartbeats 8000000 in
theorem rf_minute (l : List (List Int)) (L : Option Addr) (lc : Nat) (r : Rf) (w : World) (hL : IssA w L l) (hr : MomOk l r) :
    Calls Tryd.prog 90 #[.slice L l.length lc, .agg #[.int .i64 r.log, .int .i64 r.line]] w fun e w' => e = .returned (.int .i64 (momAt l r)) ∧ New w w' := by
  have n1 := (New.refl w).alloc (.cells #[.int .i64 r.log, .int .i64 r.line] 53)
  have r1 := RowIs.new w 53 [.int .i64 r.log, .int .i64 r.line]
  rcases hr with rfl | ⟨h1, h2, h3, h4⟩
  · have c0 := r1.cell (i := 0) rfl
    have c1 := r1.cell (i := 1) rfl
    have HN1 := Lib.hid n1
    clear n1 r1 hL
    dsimp only [beg] at c0 c1 ⊢
    go_enter Tryd.func90, Tryd.ntmps90
    go_wp2_with fail
    go_ret
    exact ⟨rfl, HN1.out⟩
  · obtain ⟨log, line⟩ := r
    dsimp only at h1 h2 h3 h4 r1 n1 ⊢
    obtain ⟨i, rfl⟩ : ∃ i : Nat, log = i := ⟨log.toNat, by omega⟩
    obtain ⟨j, rfl⟩ : ∃ j : Nat, line = j := ⟨line.toNat, by omega⟩
    have hi : i < l.length := by omega
    simp only [Int.toNat_natCast] at h4
    have hj : j < (l[i]?.getD []).length := by omega
    have HE : Hid (momAt l ⟨i, j⟩ = (l[i]?.getD [])[j]?.getD 0) := Lib.hid (by
      unfold momAt
      rw [if_neg (by simp)]
      simp)
    rw [HE.out]
    obtain ⟨lb, lo, rfl, -, hcl⟩ := (hL.keep n1).2 (by omega)
    obtain ⟨B, bc, y0, hB⟩ := hcl i hi
    obtain ⟨mb, mo, rfl, -, hmc⟩ := hB.2 (by omega)
    have v0 := hmc j hj
    have i1 : (i : Int) < (l.length : Int) := by omega
    have i2 : (j : Int) < ((l[i]?.getD []).length : Int) := by omega
    have k1 := hL.1
    have k2 := hB.1
    have c0 := r1.cell (i := 0) rfl
    have c1 := r1.cell (i := 1) rfl
    have HN1 := Lib.hid n1
    clear n1 r1 hL hcl hB hmc h1 h2 h3 h4 HE
    generalize l[i]?.getD [] = m at *
    generalize m[j]?.getD 0 = x at *
    go_enter Tryd.func90, Tryd.ntmps90
    have e1 : decide ((i : Int) < 0) = false := by simp
    go_wp2_with fail
    go_quiet (fail)
    have HN2 := Lib.hid (HN1.out.drewN nq)
    generalize (w.alloc (.cells #[.int .i64 i, .int .i64 j] 53)).drewN nq = W2 at *
    go_wp2_with fail
    go_ret
    exact ⟨rfl, HN2.out⟩
set_option maxRecDepth 100000 in
set_option maxHeartbeats 8000000 in
theorem rf_sum (l : List Bd) (L : Option Addr) (lc : Nat) (w : World) (hL : BnsA w L l) (hb : ∀ k, k ≤ l.length → -1000000000000 ≤ sumB (l.take k) ∧ sumB (l.take k) ≤ 1000000000000) :
    Calls Tryd.prog 94 #[.slice L l.length lc] w fun e w' => e = .returned (.int .i64 (sumB l)) ∧ New w w' := by
  have HL := Lib.hid hL
  have HB := Lib.hid hb
  have hll := hL.1
  clear hL hb
  go_enter Tryd.func94, Tryd.ntmps94
  go_wp2_with fail
  go_loopw [3, 4] (fun n i wr => ∃ k : Nat, k ≤ l.length ∧ n = .int .i64 (sumB (l.take k)) ∧ i = .int .i64 k ∧ New w wr) (fun _ i _ => l.length - (intOf i).toNat)
  case atStart => exact ⟨0, Nat.zero_le _, rfl, rfl, New.refl _⟩
  case round =>
    obtain ⟨k, hk, rfl, rfl, hn⟩ := hrel
    have HN := Lib.hid hn
    clear hn
    by_cases hlt : k < l.length
    · have ik : (k : Int) < (l.length : Int) := by omega
      have b1 := HB.out (k + 1) (by omega)
      have HS : Hid (sumB (l.take (k + 1)) = sumB (l.take k) + (l[k]?.getD default).most) := Lib.hid (sumB_succ hlt)
      rw [HS.out] at b1
      obtain ⟨b, off, rfl, -, hc⟩ := (HL.out.keep HN.out).2 (by omega)
      have hcc := hc k hlt
      clear hc
      generalize hgS : sumB (l.take k) = S at *
      generalize l[k]?.getD default = x at *
      obtain ⟨⟨fl, fn⟩, ⟨tl, tn⟩, mo, kd, ix⟩ := x
      obtain ⟨z0, z1, z2, z3, z4, z5, z6⟩ := hcc
      dsimp only at z0 z1 z2 z3 z4 z5 z6 b1 HS
      have hw : IntKind.i64.wrap (S + mo) = S + mo := IntWalk.i64_in _ (by omega)
      clear hgS
      go_wp2_with fail
      go_roundw
      case rel => exact ⟨k + 1, by omega, by rw [HS.out], by go_num, HN.out⟩
      case measure => simp [intOf]; omega
    · have h2 : l.take k = l := List.take_of_length_le (by omega)
      rw [h2]
      clear h2
      go_wp2_with fail
      go_ret
      exact ⟨rfl, HN.out⟩
end Go.Proofs.YtodmbcoobjcooaaDoor

namespace Go.Proofs.YtodmbcoobjcooaaDoor
open Go Go.RowKit Go.Shelf
attribute [local go_sem] Oper.semAt_some
theorem allK_yes {s : Sy} {l : List (List Int)} (h : ∀ i, i < (bnds s).length → keepB l ((bnds s)[i]?.getD default) = true) : allK s l = true := by
  unfold allK
  rw [List.all_eq_true]
  intro b hb
  obtain ⟨i, hi, rfl⟩ := List.mem_iff_getElem.1 hb
  have := h i hi
  rwa [List.getElem?_eq_getElem hi] at this
theorem allK_no {s : Sy} {l : List (List Int)} {i : Nat} (hi : i < (bnds s).length) (h : keepB l ((bnds s)[i]?.getD default) = false) : allK s l = false := by
  cases hb : allK s l with
  | false => rfl
  | true =>
    unfold allK at hb
    rw [List.all_eq_true] at hb
    have := hb _ (List.getElem_mem hi)
    rw [List.getElem?_eq_getElem hi] at h
    rw [Option.getD_some] at h
    rw [h] at this
    cases this
set_option maxRecDepth 100000 in
set_option maxHeartbeats 8000000 in
theorem rf_Keeps (s : Sy) (l : List (List Int)) (A D L : Option Addr) (c d lc : Nat) (w : World) (hM : SysM w A D s) (hL : IssA w L l) :
    Calls Tryd.prog 49 #[.agg #[.slice A s.tracks.length c, .slice D s.ties.length d, .int .i64 s.window], .slice L l.length lc] w fun e w' => e = .returned (.tuple #[.bool (keepsB s l), .int .i64 (checkE s)]) ∧ New w w' := by
  have n1 := (New.refl w).alloc (.cells #[.slice A s.tracks.length c, .slice D s.ties.length d, .int .i64 s.window] 25)
  have HR1 := Lib.hid (RowIs.new w 25 [.slice A s.tracks.length c, .slice D s.ties.length d, .int .i64 s.window])
  have HN := Lib.hid n1
  have HM := Lib.hid hM
  have HL := Lib.hid hL
  have HC := Lib.hid (rf_Check s A D c d _ (hM.keep n1))
  have hml := hM.1.1
  have hll := hL.1
  clear n1 hM hL
  have c0 := HR1.out.cell (i := 0) rfl
  have c1 := HR1.out.cell (i := 1) rfl
  have c2 := HR1.out.cell (i := 2) rfl
  by_cases he : checkE s = 0
  · have hs : Ok s := he
    have HBD : Hid (∀ w', New w w' → _) := Lib.hid fun w' h => rf_bounds s hs A D c d w' (HM.out.keep h)
    have HKB : Hid (keepsB s l = (fitB s l && allK s l)) := Lib.hid (by simp [keepsB, he])
    rw [HKB.out]
    have HNO : Hid (∀ i, i < s.tracks.length → fitR (l[i]?.getD []) (tkAt s i) = false → fitB s l = false) := Lib.hid fun i h1 h2 => fitB_no h1 h2
    have HYE : Hid (l.length = s.tracks.length → (∀ i, i < s.tracks.length → fitR (l[i]?.getD []) (tkAt s i) = true) → fitB s l = true) := Lib.hid fun h1 h2 => fitB_yes h1 h2
    have HLE : Hid (l.length ≠ s.tracks.length → fitB s l = false) := Lib.hid fitB_len
    have HFM : Hid (fitB s l = true → ∀ r, RefOk s r → _) := Lib.hid fun h r hr => fit_mom h hr
    have HAN : Hid (∀ i, i < (bnds s).length → keepB l ((bnds s)[i]?.getD default) = false → allK s l = false) := Lib.hid fun i h1 h2 => allK_no h1 h2
    have HAY : Hid ((∀ i, i < (bnds s).length → keepB l ((bnds s)[i]?.getD default) = true) → allK s l = true) := Lib.hid fun h => allK_yes h
    have HOK : Hid (∀ i, i < (bnds s).length → RefOk s ((bnds s)[i]?.getD default).frm ∧ RefOk s ((bnds s)[i]?.getD default).to ∧ -22001 ≤ ((bnds s)[i]?.getD default).most ∧ ((bnds s)[i]?.getD default).most ≤ 22001) := Lib.hid fun i hi => by
      rw [List.getElem?_eq_getElem hi, Option.getD_some]
      obtain ⟨h1, h2, -, h3⟩ := bnds_ok hs (List.getElem_mem hi)
      exact ⟨h1, h2, h3⟩
    have hbl := bnds_len hs
    rw [he] at HC ⊢
    clear he hs HKB
    generalize fitB s l = fb at *
    generalize allK s l = ak at *
    go_enter Tryd.func49, Tryd.ntmps49
    go_wp2_with fail
    refine HC.out.mono ?_
    rintro e w1 ⟨rfl, m1⟩
    have HN1 := Lib.hid (HN.out.trans m1)
    have HA1 := Lib.hid (HR1.out.keep m1)
    clear c0 c1 c2 m1 HR1 HN HC
    have c0 := HA1.out.cell (i := 0) rfl
    by_cases hne : l.length = s.tracks.length
    · have hne' : ((l.length : Int) != (s.tracks.length : Int)) = false := by simp; omega
      have HNE := Lib.hid hne
      clear hne
      go_wp2_with fail
      go_loopw [7] (fun i wr => ∃ k : Nat, k ≤ s.tracks.length ∧ i = .int .i64 k ∧ New w1 wr ∧ ∀ i, i < k → fitR (l[i]?.getD []) (tkAt s i) = true) (fun i _ => s.tracks.length - (intOf i).toNat)
      case atStart => exact ⟨0, Nat.zero_le _, rfl, New.refl _, fun i h => absurd h (Nat.not_lt_zero i)⟩
      case round =>
        obtain ⟨k, hk, rfl, hn, hall⟩ := hrel
        have HA := Lib.hid hall
        have HNR := Lib.hid hn
        clear hn hall c0
        have c0 := (HA1.out.keep HNR.out).cell (i := 0) rfl
        by_cases hlt : k < s.tracks.length
        · have ik : (k : Int) < (s.tracks.length : Int) := by omega
          have ik2 : (k : Int) < (l.length : Int) := by have := HNE.out; omega
          obtain ⟨b, off, rfl, -, hc⟩ := (HM.out.1.keep (HN1.out.trans HNR.out)).2 (by omega)
          obtain ⟨JA, jc, TA, tc, z0, z1, z2, z3, -, -⟩ := hc k hlt
          obtain ⟨lb, lo, rfl, -, hcl⟩ := (HL.out.keep (HN1.out.trans HNR.out)).2 (by have := HNE.out; omega)
          obtain ⟨B, bc, y0, hB⟩ := hcl k (by have := HNE.out; omega)
          have et : s.tracks[k]?.getD default = tkAt s k := rfl
          rw [et] at z0 z1 z2 z3
          have HBI := Lib.hid hB
          have HNK : Hid (fitR (l[k]?.getD []) (tkAt s k) = false → fb = false) := Lib.hid (HNO.out k hlt)
          have HSU : Hid (fitR (l[k]?.getD []) (tkAt s k) = true → ∀ i, i < k + 1 → fitR (l[i]?.getD []) (tkAt s i) = true) := Lib.hid fun h i hi => by
            by_cases e : i < k
            · exact HA.out i e
            · obtain rfl : i = k := by omega
              exact h
          clear hc hcl hB et
          have HRN : Hid (∀ j, j < (l[k]?.getD []).length → wiB ((l[k]?.getD [])[j]?.getD 0) (-1000000) 1000000 = false → fitR (l[k]?.getD []) (tkAt s k) = false) := Lib.hid fun j h1 h2 => fitR_no h1 h2
          have HRY : Hid ((l[k]?.getD []).length = (tkAt s k).times.length → (∀ j, j < (l[k]?.getD []).length → wiB ((l[k]?.getD [])[j]?.getD 0) (-1000000) 1000000 = true) → fitR (l[k]?.getD []) (tkAt s k) = true) := Lib.hid fun h1 h2 => fitR_yes h1 h2
          have HRL : Hid ((l[k]?.getD []).length ≠ (tkAt s k).times.length → fitR (l[k]?.getD []) (tkAt s k) = false) := Lib.hid fun h => by simp [fitR, h]
          generalize fitR (l[k]?.getD []) (tkAt s k) = fr at *
          generalize l[k]?.getD [] = m at *
          generalize htl : (tkAt s k).times.length = tl at *
          have hmb := HBI.out.1
          clear z0 z1 z2
          go_wp2_with fail
          go_quiet (fail)
          dsimp only [Exit.then]
          have hk6 := (New.refl wr).drewN nq
          have HN6 := Lib.hid hk6
          have HU := Lib.hid (hk6.cellOf y0)
          have u1 := HU.out
          clear hk6 z3 y0 c0
          generalize wr.drewN nq = W6 at *
          generalize hmt : ((m.length : Int) != (tl : Int)) = mt at *
          cases mt with
          | false =>
            have HML : Hid (m.length = tl) := Lib.hid (by simp at hmt; omega)
            clear hmt
            go_wp2_with fail
            go_loopw [8] (fun i w' => ∃ j : Nat, j ≤ m.length ∧ i = .int .i64 j ∧ New W6 w' ∧ ∀ i, i < j → wiB (m[i]?.getD 0) (-1000000) 1000000 = true) (fun i _ => m.length - (intOf i).toNat)
            case atStart => exact ⟨0, Nat.zero_le _, rfl, New.refl _, fun i h => absurd h (Nat.not_lt_zero i)⟩
            case round =>
              obtain ⟨j, hj, rfl, hnj, hja⟩ := hrel
              have HJ := Lib.hid hja
              have HNJ := Lib.hid hnj
              clear hnj hja u1
              have u2 := HNJ.out.cellOf HU.out
              by_cases hjt : j < m.length
              · have i2 : (j : Int) < (m.length : Int) := by omega
                obtain ⟨mb, mo, rfl, -, hmc⟩ := (HBI.out.keep (HN6.out.trans HNJ.out)).2 (by omega)
                have v0 := hmc j hjt
                have HJN : Hid (wiB (m[j]?.getD 0) (-1000000) 1000000 = false → fr = false) := Lib.hid (HRN.out j hjt)
                have HJS : Hid (wiB (m[j]?.getD 0) (-1000000) 1000000 = true → ∀ i, i < j + 1 → wiB (m[i]?.getD 0) (-1000000) 1000000 = true) := Lib.hid fun h i hi => by
                  by_cases e : i < j
                  · exact HJ.out i e
                  · obtain rfl : i = j := by omega
                    exact h
                clear hmc
                generalize m[j]?.getD 0 = x at *
                cases hb : wiB x (-1000000) 1000000 with
                | false =>
                  obtain rfl := HNK.out (HJN.out hb)
                  go_wp2_with fail
                  refine (rf_withinIs hb _).mono ?_
                  rintro e w7 ⟨rfl, rfl⟩
                  go_wp2_with fail
                  try go_ret2
                  exact ⟨rfl, HN1.out.trans (HNR.out.trans (HN6.out.trans HNJ.out))⟩
                | true =>
                  go_wp2_with fail
                  refine (rf_withinIs hb _).mono ?_
                  rintro e w7 ⟨rfl, rfl⟩
                  go_wp2_with fail
                  go_roundw
                  case rel => exact ⟨j + 1, by omega, by go_num, HNJ.out, HJS.out hb⟩
                  case measure => simp [intOf]; omega
              · obtain rfl : j = m.length := by omega
                have hfr := HRY.out HML.out HJ.out
                have HS2 := Lib.hid (HSU.out hfr)
                clear hfr
                go_wp2_with fail
                go_roundw
                case rel => exact ⟨k + 1, by omega, by go_num, HNR.out.trans (HN6.out.trans HNJ.out), HS2.out⟩
                case measure => simp [intOf]; omega
          | true =>
            have hml2 : m.length ≠ tl := by intro h; simp [h] at hmt
            obtain rfl := HNK.out (HRL.out hml2)
            go_wp2_with fail
            try go_ret2
            exact ⟨rfl, HN1.out.trans (HNR.out.trans HN6.out)⟩
        · obtain rfl : k = s.tracks.length := by omega
          obtain rfl := HYE.out HNE.out HA.out
          have HNX := Lib.hid (HN1.out.trans HNR.out)
          have HBX := Lib.hid (HBD.out _ HNX.out)
          have c1 := (HA1.out.keep HNR.out).cell (i := 1) rfl
          have c2 := (HA1.out.keep HNR.out).cell (i := 2) rfl
          have HFM2 := Lib.hid (HFM.out rfl)
          have ikn : ((s.tracks.length : Int) < (l.length : Int)) = False := by have := HNE.out; simp; omega
          clear HNO HYE HLE HFM HA
          go_wp2_with fail
          refine HBX.out.mono ?_
          rintro e w8 ⟨V, rfl, ho, m8⟩
          obtain ⟨VA, vc, rfl⟩ := owns_form ho
          have HVB := Lib.hid (owns_bns ho).2
          have HN8 := Lib.hid (HNX.out.trans m8)
          clear c0 c1 c2 m8 ho HBX
          generalize hbn : (bnds s).length = n at *
          go_wp2_with fail
          go_loopw [10] (fun i wr => ∃ k : Nat, k ≤ n ∧ i = .int .i64 k ∧ New w8 wr ∧ ∀ i, i < k → keepB l ((bnds s)[i]?.getD default) = true) (fun i _ => n - (intOf i).toNat)
          case atStart => exact ⟨0, Nat.zero_le _, rfl, New.refl _, fun i h => absurd h (Nat.not_lt_zero i)⟩
          case round =>
            obtain ⟨k, hk, rfl, hn, hall⟩ := hrel
            have HA := Lib.hid hall
            have HNQ := Lib.hid (HN8.out.trans hn)
            have HNR2 := Lib.hid hn
            by_cases hlt : k < n
            · have ik : (k : Int) < (n : Int) := by omega
              obtain ⟨vb, vo, rfl, -, hc⟩ := (HVB.out.keep hn).2 (by omega)
              have hcc := hc k (by omega)
              obtain ⟨o1, o2, o3, o4⟩ := HOK.out k hlt
              have hf1 := HFM2.out _ o1
              have hf2 := HFM2.out _ o2
              have HM1 : Hid (∀ w', New wr w' → _) := Lib.hid fun w' h => rf_minute l L lc _ w' (HL.out.keep (HNQ.out.trans h)) hf1.1
              have HM2 : Hid (∀ w', New wr w' → _) := Lib.hid fun w' h => rf_minute l L lc _ w' (HL.out.keep (HNQ.out.trans h)) hf2.1
              have HKB : Hid (keepB l ((bnds s)[k]?.getD default) = decide (momAt l ((bnds s)[k]?.getD default).to ≤ momAt l ((bnds s)[k]?.getD default).frm + ((bnds s)[k]?.getD default).most)) := Lib.hid rfl
              have HNO2 := Lib.hid (HAN.out k hlt)
              have HSU : Hid (keepB l ((bnds s)[k]?.getD default) = true → ∀ i, i < k + 1 → keepB l ((bnds s)[i]?.getD default) = true) := Lib.hid fun h i hi => by
                by_cases e : i < k
                · exact HA.out i e
                · obtain rfl : i = k := by omega
                  exact h
              clear hc hn hall o1 o2
              have hx1 := hf1.2
              have hx2 := hf2.2
              clear hf1 hf2
              generalize momAt l ((bnds s)[k]?.getD default).to = y at *
              generalize momAt l ((bnds s)[k]?.getD default).frm = x at *
              generalize keepB l ((bnds s)[k]?.getD default) = kb at *
              generalize (bnds s)[k]?.getD default = bd at *
              obtain ⟨⟨fl, fn⟩, ⟨tl, tn⟩, mo, kd, ix⟩ := bd
              have HCC := Lib.hid hcc
              obtain ⟨y0, y1, y2, y3, y4, -, -⟩ := hcc
              dsimp only at y0 y1 y2 y3 y4 o3 o4 HM1 HM2 HKB
              have hw : IntKind.i64.wrap (x + mo) = x + mo := IntWalk.i64_in _ (by omega)
              have HK : Hid (∀ w', New wr w' → (fun w' => New wr w' ∧ (w'.cell? ⟨vb, vo + k * 7, none⟩ = some (.int .i64 fl) ∧ w'.cell? ⟨vb, vo + k * 7 + 1, none⟩ = some (.int .i64 fn) ∧ w'.cell? ⟨vb, vo + k * 7 + 2, none⟩ = some (.int .i64 tl) ∧ w'.cell? ⟨vb, vo + k * 7 + 3, none⟩ = some (.int .i64 tn) ∧ w'.cell? ⟨vb, vo + k * 7 + 4, none⟩ = some (.int .i64 mo))) w') := Lib.hid fun w' h => ⟨h, h.cellOf HCC.out.1, h.cellOf HCC.out.2.1, h.cellOf HCC.out.2.2.1, h.cellOf HCC.out.2.2.2.1, h.cellOf HCC.out.2.2.2.2.1⟩
              dsimp only at HK
              clear y0 y1 y2 y3 y4
              cases kb with
              | true =>
                have hd : decide (x + mo < y) = false := by have := HKB.out; simp at this; simp; omega
                have HS2 := Lib.hid (HSU.out rfl)
                go_wp2_with fail
                go_region_held3 (fun w' => New wr w' ∧ (w'.cell? ⟨vb, vo + k * 7, none⟩ = some (.int .i64 fl) ∧ w'.cell? ⟨vb, vo + k * 7 + 1, none⟩ = some (.int .i64 fn) ∧ w'.cell? ⟨vb, vo + k * 7 + 2, none⟩ = some (.int .i64 tl) ∧ w'.cell? ⟨vb, vo + k * 7 + 3, none⟩ = some (.int .i64 tn) ∧ w'.cell? ⟨vb, vo + k * 7 + 4, none⟩ = some (.int .i64 mo)))
                  (first | exact HK.out _ (New.refl _).drew | exact HK.out _ (New.trans (by first | assumption | exact (by assumption : New _ _ ∧ _).1) (by assumption)))
                  (first | (go_at_call 90; with_reducible (refine (HM1.out _ ?_).mono ?_; first | assumption | exact (New.refl _).drew | exact (by assumption : New _ _ ∧ _).1); rintro e w' ⟨rfl, hb⟩) | (go_at_call 90; with_reducible (refine (HM2.out _ ?_).mono ?_; first | assumption | exact (New.refl _).drew | exact (by assumption : New _ _ ∧ _).1); rintro e w' ⟨rfl, hb⟩))
                all_goals
                  have hn : New wr w' := by first | assumption | exact (by assumption : New wr w' ∧ _).1
                  have HNZ := Lib.hid (HNR2.out.trans hn)
                  go_wp2_with fail
                  go_roundw
                  case rel => exact ⟨k + 1, by omega, by go_num, HNZ.out, HS2.out⟩
                  case measure => simp [intOf]; omega
              | false =>
                have hd : decide (x + mo < y) = true := by have := HKB.out; simp at this; simp; omega
                obtain rfl := HNO2.out rfl
                go_wp2_with fail
                go_region_held3 (fun w' => New wr w' ∧ (w'.cell? ⟨vb, vo + k * 7, none⟩ = some (.int .i64 fl) ∧ w'.cell? ⟨vb, vo + k * 7 + 1, none⟩ = some (.int .i64 fn) ∧ w'.cell? ⟨vb, vo + k * 7 + 2, none⟩ = some (.int .i64 tl) ∧ w'.cell? ⟨vb, vo + k * 7 + 3, none⟩ = some (.int .i64 tn) ∧ w'.cell? ⟨vb, vo + k * 7 + 4, none⟩ = some (.int .i64 mo)))
                  (first | exact HK.out _ (New.refl _).drew | exact HK.out _ (New.trans (by first | assumption | exact (by assumption : New _ _ ∧ _).1) (by assumption)))
                  (first | (go_at_call 90; with_reducible (refine (HM1.out _ ?_).mono ?_; first | assumption | exact (New.refl _).drew | exact (by assumption : New _ _ ∧ _).1); rintro e w' ⟨rfl, hb⟩) | (go_at_call 90; with_reducible (refine (HM2.out _ ?_).mono ?_; first | assumption | exact (New.refl _).drew | exact (by assumption : New _ _ ∧ _).1); rintro e w' ⟨rfl, hb⟩))
                all_goals
                  have hn : New wr w' := by first | assumption | exact (by assumption : New wr w' ∧ _).1
                  have HNZ := Lib.hid (HNQ.out.trans hn)
                  go_wp2_with fail
                  try go_ret2
                  exact ⟨rfl, HNZ.out⟩
            · obtain rfl : k = n := by omega
              obtain rfl := HAY.out hall
              clear hn hall
              go_wp2_with fail
              try go_ret2
              exact ⟨rfl, HNQ.out⟩
    · have hne' : ((l.length : Int) != (s.tracks.length : Int)) = true := by simp; omega
      obtain rfl := HLE.out hne
      go_wp2_with fail
      try go_ret2
      exact ⟨rfl, HN1.out⟩
  · have hk : keepsB s l = false := keeps_not fun h => he h.1
    rw [hk]
    have hne : (checkE s != 0) = true := by simp [he]
    clear hk
    generalize checkE s = er at *
    clear he
    go_enter Tryd.func49, Tryd.ntmps49
    go_wp2_with fail
    refine HC.out.mono ?_
    rintro e w1 ⟨rfl, m1⟩
    go_wp2_with fail
    try go_ret2
    exact ⟨rfl, HN.out.trans m1⟩
end Go.Proofs.YtodmbcoobjcooaaDoor

namespace Go.Proofs.YtodmbcoobjcooaaDoor
open Go Go.RowKit Go.Shelf
attribute [local go_sem] Oper.semAt_some
/-- Bounds of a system, each with the To of the one before as its From. -/
def Chn (s : Sy) (l : List Bd) : Prop := (1 ≤ l.length ∧ l.length ≤ 30000) ∧ ∀ i, i < l.length → (0 < i → (l[i]?.getD default).frm = (l[i - 1]?.getD default).to) ∧ (l[i]?.getD default) ∈ bnds s
def ChA (s : Sy) (l : List Bd) (w : World) (e : Ending) (w' : World) : Prop := ((Chn s l ∧ e = .returned (.bool true)) ∨ (¬Chn s l ∧ e = .returned (.bool false))) ∧ New w w'
theorem bnds_get {s : Sy} {b : Bd} (h : b ∈ bnds s) : ∃ i, i < (bnds s).length ∧ (bnds s)[i]?.getD default = b := by
  obtain ⟨i, hi, e⟩ := List.mem_iff_getElem.1 h
  exact ⟨i, hi, by rw [List.getElem?_eq_getElem hi, Option.getD_some, e]⟩
theorem get_bnds {s : Sy} {i : Nat} (h : i < (bnds s).length) : (bnds s)[i]?.getD default ∈ bnds s := by
  rw [List.getElem?_eq_getElem h, Option.getD_some]
  exact List.getElem_mem h
theorem i_beq {a b : Int} : (a == b) = decide (a = b) := by
  by_cases h : a = b <;> simp [h]
set_option maxHeartbeats 4000000 in
theorem eql_bd (a b : Bd) (w : World) : (binOp .eql 91 (.agg #[.int .i64 a.frm.log, .int .i64 a.frm.line, .int .i64 a.to.log, .int .i64 a.to.line, .int .i64 a.most, .int .i64 a.kind, .int .i64 a.id]) (.agg #[.int .i64 b.frm.log, .int .i64 b.frm.line, .int .i64 b.to.log, .int .i64 b.to.line, .int .i64 b.most, .int .i64 b.kind, .int .i64 b.id])).run Tryd.prog w = .ok (.bool (decide (a = b))) w := by
  obtain ⟨⟨a1, a2⟩, ⟨a3, a4⟩, a5, a6, a7⟩ := a
  obtain ⟨⟨b1, b2⟩, ⟨b3, b4⟩, b5, b6, b7⟩ := b
  dsimp only
  have e : decide ((⟨⟨a1, a2⟩, ⟨a3, a4⟩, a5, a6, a7⟩ : Bd) = ⟨⟨b1, b2⟩, ⟨b3, b4⟩, b5, b6, b7⟩) = (decide (a1 = b1) && (decide (a2 = b2) && (decide (a3 = b3) && (decide (a4 = b4) && (decide (a5 = b5) && (decide (a6 = b6) && decide (a7 = b7))))))) := by
    rw [Bool.eq_iff_iff]
    simp only [decide_eq_true_eq, Bool.and_eq_true, Bd.mk.injEq, Rf.mk.injEq, and_assoc]
  rw [e]
  by_cases h1 : a1 = b1
  rotate_left
  · simp [go_sem, Tryd.underlying91, Tryd.underlying53, Tryd.underlying3, h1]
  by_cases h2 : a2 = b2
  rotate_left
  · simp [go_sem, Tryd.underlying91, Tryd.underlying53, Tryd.underlying3, h1, h2]
  by_cases h3 : a3 = b3
  rotate_left
  · simp [go_sem, Tryd.underlying91, Tryd.underlying53, Tryd.underlying3, h1, h2, h3]
  by_cases h4 : a4 = b4
  rotate_left
  · simp [go_sem, Tryd.underlying91, Tryd.underlying53, Tryd.underlying3, h1, h2, h3, h4]
  by_cases h5 : a5 = b5
  rotate_left
  · simp [go_sem, Tryd.underlying91, Tryd.underlying53, Tryd.underlying3, h1, h2, h3, h4, h5]
  by_cases h6 : a6 = b6
  rotate_left
  · simp [go_sem, Tryd.underlying91, Tryd.underlying53, Tryd.underlying3, h1, h2, h3, h4, h5, h6]
  by_cases h7 : a7 = b7
  rotate_left
  · simp [go_sem, Tryd.underlying91, Tryd.underlying53, Tryd.underlying3, h1, h2, h3, h4, h5, h6, h7]
  simp [go_sem, Tryd.underlying91, Tryd.underlying53, Tryd.underlying3, h1, h2, h3, h4, h5, h6, h7]
theorem neq_rf (a b : Rf) (w : World) : (binOp .neq 53 (.agg #[.int .i64 a.log, .int .i64 a.line]) (.agg #[.int .i64 b.log, .int .i64 b.line])).run Tryd.prog w = .ok (.bool (!decide (a = b))) w := by
  obtain ⟨a1, a2⟩ := a
  obtain ⟨b1, b2⟩ := b
  dsimp only
  have e : decide ((⟨a1, a2⟩ : Rf) = ⟨b1, b2⟩) = (decide (a1 = b1) && decide (a2 = b2)) := by
    rw [Bool.eq_iff_iff]
    simp only [decide_eq_true_eq, Bool.and_eq_true, Rf.mk.injEq]
  rw [e]
  by_cases h1 : a1 = b1 <;> by_cases h2 : a2 = b2 <;> simp [go_sem, Tryd.underlying53, Tryd.underlying3, h1, h2]
attribute [-go_sem] Go.run_eql_struct Go.run_neq_struct
set_option maxRecDepth 100000 in
set_option maxHeartbeats 8000000 in
theorem rf_chained (s : Sy) (hs : Ok s) (l : List Bd) (A D L : Option Addr) (c d lc : Nat) (w : World) (hM : SysM w A D s) (hL : BnsA w L l) :
    Calls Tryd.prog 93 #[.agg #[.slice A s.tracks.length c, .slice D s.ties.length d, .int .i64 s.window], .slice L l.length lc] w fun e w' => ChA s l w e w' := by
  have n1 := (New.refl w).alloc (.cells #[.slice A s.tracks.length c, .slice D s.ties.length d, .int .i64 s.window] 25)
  have HR1 := Lib.hid (RowIs.new w 25 [.slice A s.tracks.length c, .slice D s.ties.length d, .int .i64 s.window])
  have HN := Lib.hid n1
  have HL := Lib.hid hL
  have HBD := Lib.hid (rf_bounds s hs A D c d _ (hM.keep n1))
  have hll := hL.1
  have hbl := bnds_len hs
  clear n1 hM hL hs
  have c0 := HR1.out.cell (i := 0) rfl
  have c1 := HR1.out.cell (i := 1) rfl
  have c2 := HR1.out.cell (i := 2) rfl
  go_enter Tryd.func93, Tryd.ntmps93
  by_cases h1 : l.length < 1
  · have h1' : decide ((l.length : Int) < 1) = true := by simp; omega
    have HNO : Hid (¬Chn s l) := Lib.hid fun h => by have := h.1; omega
    clear h1
    go_wp2_with fail
    go_ret
    exact ⟨.inr ⟨HNO.out, rfl⟩, HN.out⟩
  have h1' : decide ((l.length : Int) < 1) = false := by simp; omega
  by_cases h2 : 30000 < l.length
  · have h2' : decide (30000 < (l.length : Int)) = true := by simp; omega
    have HNO : Hid (¬Chn s l) := Lib.hid fun h => by have := h.1; omega
    clear h1 h2
    go_wp2_with fail
    go_ret
    exact ⟨.inr ⟨HNO.out, rfl⟩, HN.out⟩
  have h2' : decide (30000 < (l.length : Int)) = false := by simp; omega
  have HLN : Hid (1 ≤ l.length ∧ l.length ≤ 30000) := Lib.hid (by omega)
  go_wp2_with fail
  refine HBD.out.mono ?_
  rintro e w1 ⟨V, rfl, ho, m1⟩
  obtain ⟨VA, vc, rfl⟩ := owns_form ho
  have HVB := Lib.hid (owns_bns ho).2
  have HN1 := Lib.hid (HN.out.trans m1)
  have HG : Hid (∀ b, b ∈ bnds s → _) := Lib.hid fun b h => bnds_get (s := s) (b := b) h
  have HG2 : Hid (∀ i, i < (bnds s).length → _) := Lib.hid fun i h => get_bnds (s := s) (i := i) h
  clear c0 c1 c2 m1 ho HBD HR1 HN h1 h2 h1' h2'
  generalize hbn : (bnds s).length = n at *
  go_wp2_with fail
  go_loopw [6] (fun i wr => ∃ k : Nat, k ≤ l.length ∧ i = .int .i64 k ∧ New w1 wr ∧ ∀ i, i < k → (0 < i → (l[i]?.getD default).frm = (l[i - 1]?.getD default).to) ∧ (l[i]?.getD default) ∈ bnds s) (fun i _ => l.length - (intOf i).toNat)
  case atStart => exact ⟨0, Nat.zero_le _, rfl, New.refl _, fun i h => absurd h (Nat.not_lt_zero i)⟩
  case round =>
    obtain ⟨k, hk, rfl, hn, hall⟩ := hrel
    have HA := Lib.hid hall
    have HNR := Lib.hid hn
    have HLR := Lib.hid (HL.out.keep (HN1.out.trans hn))
    have HVR := Lib.hid (HVB.out.keep hn)
    clear hn hall
    by_cases hlt : k < l.length
    · have ik : (k : Int) < (l.length : Int) := by omega
      have HNC : Hid (((0 < k → (l[k]?.getD default).frm = (l[k - 1]?.getD default).to) ∧ (l[k]?.getD default) ∈ bnds s → False) → ¬Chn s l) := Lib.hid fun h hc => h (hc.2 k hlt)
      have HSU : Hid ((0 < k → (l[k]?.getD default).frm = (l[k - 1]?.getD default).to) ∧ (l[k]?.getD default) ∈ bnds s → ∀ i, i < k + 1 → (0 < i → (l[i]?.getD default).frm = (l[i - 1]?.getD default).to) ∧ (l[i]?.getD default) ∈ bnds s) := Lib.hid fun h i hi => by
        by_cases e : i < k
        · exact HA.out i e
        · obtain rfl : i = k := by omega
          exact h
      obtain ⟨lb, lo, rfl, -, hc⟩ := HLR.out.2 (by omega)
      have hcc := hc k hlt
      by_cases hk0 : k = 0
      · subst hk0
        have hcz := hcc
        generalize (l[0]?.getD default) = bd at *
        have HY := Lib.hid hcz
        obtain ⟨⟨fl, fn⟩, ⟨tl, tn⟩, mo, kd, ix⟩ := bd
        obtain ⟨y0, y1, y2, y3, y4, y5, y6⟩ := hcc
        dsimp only at y0 y1 y2 y3 y4 y5 y6
        simp only [Nat.zero_mul, Nat.add_zero] at y0 y1 y2 y3 y4 y5 y6
        have HCN : Hid ((⟨⟨fl, fn⟩, ⟨tl, tn⟩, mo, kd, ix⟩ : Bd) ∉ bnds s → ¬Chn s l) := Lib.hid fun h => HNC.out fun k => h k.2
        have HCY : Hid ((⟨⟨fl, fn⟩, ⟨tl, tn⟩, mo, kd, ix⟩ : Bd) ∈ bnds s → _) := Lib.hid fun h => HSU.out ⟨fun h => absurd h (by omega), h⟩
        have HZ0 : Hid ((false = true) → (⟨⟨fl, fn⟩, ⟨tl, tn⟩, mo, kd, ix⟩ : Bd) ∈ bnds s) := Lib.hid fun h => by cases h
        clear hc hcz
        go_wp2_with fail
        go_quiet (fail)
        dsimp only [Exit.then]
        have HQ := Lib.hid ((New.refl wr).drewN nq)
        go_wp2_with fail
        go_quiet (fail)
        dsimp only [Exit.then]
        have HQ2 := Lib.hid (HQ.out.trans ((New.refl _).drewN nq))
        go_wp2_with fail
        go_loopw [7, 8] (fun kn i w' => ∃ (q : Nat) (b : Bool), q ≤ n ∧ kn = .bool b ∧ i = .int .i64 q ∧ New wr w' ∧ (b = true → (⟨⟨fl, fn⟩, ⟨tl, tn⟩, mo, kd, ix⟩ : Bd) ∈ bnds s) ∧ (b = false → ∀ i, i < q → (bnds s)[i]?.getD default ≠ (⟨⟨fl, fn⟩, ⟨tl, tn⟩, mo, kd, ix⟩ : Bd))) (fun _ i _ => n - (intOf i).toNat)
        case atStart => exact ⟨0, false, Nat.zero_le _, rfl, rfl, HQ2.out, HZ0.out, fun _ i h => absurd h (Nat.not_lt_zero i)⟩
        case round =>
          obtain ⟨q, b, hq, rfl, rfl, hnq, hb1, hb2⟩ := hrel
          have HNQ := Lib.hid hnq
          have HB1 := Lib.hid hb1
          have HB2 := Lib.hid hb2
          clear hnq hb1 hb2
          cases b with
          | true =>
            have HS2 := Lib.hid (HCY.out (HB1.out rfl))
            by_cases hqn : q < n
            · have iq : (q : Int) < (n : Int) := by omega
              go_wp2_with fail
              go_roundw
              case rel => exact ⟨0 + 1, by omega, by go_num, HNR.out.trans HNQ.out, HS2.out⟩
              case measure => simp [intOf]; omega
            · have iq : ¬((q : Int) < (n : Int)) := by omega
              go_wp2_with fail
              go_roundw
              case rel => exact ⟨0 + 1, by omega, by go_num, HNR.out.trans HNQ.out, HS2.out⟩
              case measure => simp [intOf]; omega
          | false =>
            by_cases hqn : q < n
            · have iq : (q : Int) < (n : Int) := by omega
              obtain ⟨vb, vo, rfl, -, hv⟩ := (HVR.out.keep HNQ.out).2 (by omega)
              have hvv := hv q (by omega)
              have hyy := HY.out.keep HNQ.out
              have HIN := Lib.hid (HG2.out q hqn)
              have HB3 : Hid ((bnds s)[q]?.getD default ≠ (⟨⟨fl, fn⟩, ⟨tl, tn⟩, mo, kd, ix⟩ : Bd) → ∀ i, i < q + 1 → (bnds s)[i]?.getD default ≠ (⟨⟨fl, fn⟩, ⟨tl, tn⟩, mo, kd, ix⟩ : Bd)) := Lib.hid fun h i hi => by
                by_cases e : i < q
                · exact HB2.out rfl i e
                · obtain rfl : i = q := by omega
                  exact h
              have hn3 := eql_bd ((bnds s)[q]?.getD default) (⟨⟨fl, fn⟩, ⟨tl, tn⟩, mo, kd, ix⟩ : Bd)
              generalize (bnds s)[q]?.getD default = bo at *
              generalize heo : decide (bo = (⟨⟨fl, fn⟩, ⟨tl, tn⟩, mo, kd, ix⟩ : Bd)) = eo at *
              have HEO := Lib.hid heo
              clear heo hv
              obtain ⟨⟨ofl, ofn⟩, ⟨otl, otn⟩, omo, okd, oix⟩ := bo
              obtain ⟨v0, v1, v2, v3, v4, v5, v6⟩ := hvv
              obtain ⟨x0, x1, x2, x3, x4, x5, x6⟩ := hyy
              dsimp only at v0 v1 v2 v3 v4 v5 v6 x0 x1 x2 x3 x4 x5 x6 hn3
              try simp only [Nat.zero_mul, Nat.add_zero] at x0 x1 x2 x3 x4 x5 x6
              go_wp2_with fail
              go_quiet (fail)
              try dsimp only [Exit.then]
              have HNZ := Lib.hid (HNQ.out.trans ((New.refl _).drewN nq))
              clear v0 v1 v2 v3 v4 v5 v6 x0 x1 x2 x3 x4 x5 x6 hn3
              try simp only [Nat.zero_mul, Nat.add_zero] at x0 x1 x2 x3 x4 x5 x6
              go_wp2_with fail
              go_roundw
              case rel =>
                refine ⟨q + 1, eo, by omega, rfl, by go_num, HNZ.out, fun h => ?_, fun h => ?_⟩
                · have e := HEO.out
                  rw [h] at e
                  have e2 := of_decide_eq_true e
                  rw [← e2]
                  exact HIN.out
                · have e := HEO.out
                  rw [h] at e
                  exact HB3.out (of_decide_eq_false e)
              case measure => simp [intOf]; omega
            · obtain rfl : q = n := by omega
              have HNN : Hid (¬Chn s l) := Lib.hid (HCN.out fun h => by
                obtain ⟨i, hi, e⟩ := HG.out _ h
                exact HB2.out rfl i hi e)
              go_wp2_with fail
              go_ret
              exact ⟨.inr ⟨HNN.out, rfl⟩, HN1.out.trans (HNR.out.trans HNQ.out)⟩
      · have hj := hc (k - 1) (by omega)
        have h0 := hc 0 (by omega)
        have hmem0 := (HA.out 0 (by omega)).2
        have hw : IntKind.i64.wrap ((k : Int) - 1) = ((k - 1 : Nat) : Int) := by rw [IntWalk.i64_in _ (by omega)]; omega
        have ij : ((k - 1 : Nat) : Int) < (l.length : Int) := by omega
        have i0 : (0 : Int) < (l.length : Int) := by omega
        have g0 : decide (0 < k) = true := by simp; omega
        generalize hj1 : k - 1 = j at *
        have hcz := hcc
        generalize (l[k]?.getD default) = bd at *
        have HY := Lib.hid hcz
        generalize (l[j]?.getD default) = bj at *
        generalize (l[0]?.getD default) = bz at *
        have hn1 := neq_rf bd.frm bj.to
        have hn2 := eql_bd bd bz
        have HM0 : Hid (bd = bz → bd ∈ bnds s) := Lib.hid fun h => h ▸ hmem0
        by_cases e1 : bd.frm = bj.to
        · have HCN : Hid (bd ∉ bnds s → ¬Chn s l) := Lib.hid fun h => HNC.out fun k => h k.2
          have HCY : Hid (bd ∈ bnds s → _) := Lib.hid fun h => HSU.out ⟨fun _ => e1, h⟩
          rw [decide_eq_true e1] at hn1
          generalize hez : decide (bd = bz) = ez at *
          have HZ0 : Hid ((ez = true) → bd ∈ bnds s) := Lib.hid fun h => HM0.out (by rw [h] at hez; exact of_decide_eq_true hez)
          clear e1 hez hmem0
          obtain ⟨⟨fl, fn⟩, ⟨tl, tn⟩, mo, kd, ix⟩ := bd
          obtain ⟨⟨jfl, jfn⟩, ⟨jtl, jtn⟩, jmo, jkd, jix⟩ := bj
          obtain ⟨⟨zfl, zfn⟩, ⟨ztl, ztn⟩, zmo, zkd, zix⟩ := bz
          obtain ⟨y0, y1, y2, y3, y4, y5, y6⟩ := hcc
          obtain ⟨j0, j1, j2, j3, j4, j5, j6⟩ := hj
          obtain ⟨z0, z1, z2, z3, z4, z5, z6⟩ := h0
          dsimp only at y0 y1 y2 y3 y4 y5 y6 j0 j1 j2 j3 j4 j5 j6 z0 z1 z2 z3 z4 z5 z6 hn1
          simp only [Nat.zero_mul, Nat.add_zero] at z0 z1 z2 z3 z4 z5 z6
          try dsimp only at hn2
          clear hc hcz
          go_wp2_with fail
          go_quiet (fail)
          dsimp only [Exit.then]
          have HQ := Lib.hid ((New.refl wr).drewN nq)
          go_wp2_with fail
          go_quiet (fail)
          dsimp only [Exit.then]
          have HQ2 := Lib.hid (HQ.out.trans ((New.refl _).drewN nq))
          go_wp2_with fail
          go_loopw [7, 8] (fun kn i w' => ∃ (q : Nat) (b : Bool), q ≤ n ∧ kn = .bool b ∧ i = .int .i64 q ∧ New wr w' ∧ (b = true → (⟨⟨fl, fn⟩, ⟨tl, tn⟩, mo, kd, ix⟩ : Bd) ∈ bnds s) ∧ (b = false → ∀ i, i < q → (bnds s)[i]?.getD default ≠ (⟨⟨fl, fn⟩, ⟨tl, tn⟩, mo, kd, ix⟩ : Bd))) (fun _ i _ => n - (intOf i).toNat)
          case atStart => exact ⟨0, ez, Nat.zero_le _, rfl, rfl, HQ2.out, HZ0.out, fun _ i h => absurd h (Nat.not_lt_zero i)⟩
          case round =>
            obtain ⟨q, b, hq, rfl, rfl, hnq, hb1, hb2⟩ := hrel
            have HNQ := Lib.hid hnq
            have HB1 := Lib.hid hb1
            have HB2 := Lib.hid hb2
            clear hnq hb1 hb2
            cases b with
            | true =>
              have HS2 := Lib.hid (HCY.out (HB1.out rfl))
              by_cases hqn : q < n
              · have iq : (q : Int) < (n : Int) := by omega
                go_wp2_with fail
                go_roundw
                case rel => exact ⟨k + 1, by omega, by go_num, HNR.out.trans HNQ.out, HS2.out⟩
                case measure => simp [intOf]; omega
              · have iq : ¬((q : Int) < (n : Int)) := by omega
                go_wp2_with fail
                go_roundw
                case rel => exact ⟨k + 1, by omega, by go_num, HNR.out.trans HNQ.out, HS2.out⟩
                case measure => simp [intOf]; omega
            | false =>
              by_cases hqn : q < n
              · have iq : (q : Int) < (n : Int) := by omega
                obtain ⟨vb, vo, rfl, -, hv⟩ := (HVR.out.keep HNQ.out).2 (by omega)
                have hvv := hv q (by omega)
                have hyy := HY.out.keep HNQ.out
                have HIN := Lib.hid (HG2.out q hqn)
                have HB3 : Hid ((bnds s)[q]?.getD default ≠ (⟨⟨fl, fn⟩, ⟨tl, tn⟩, mo, kd, ix⟩ : Bd) → ∀ i, i < q + 1 → (bnds s)[i]?.getD default ≠ (⟨⟨fl, fn⟩, ⟨tl, tn⟩, mo, kd, ix⟩ : Bd)) := Lib.hid fun h i hi => by
                  by_cases e : i < q
                  · exact HB2.out rfl i e
                  · obtain rfl : i = q := by omega
                    exact h
                have hn3 := eql_bd ((bnds s)[q]?.getD default) (⟨⟨fl, fn⟩, ⟨tl, tn⟩, mo, kd, ix⟩ : Bd)
                generalize (bnds s)[q]?.getD default = bo at *
                generalize heo : decide (bo = (⟨⟨fl, fn⟩, ⟨tl, tn⟩, mo, kd, ix⟩ : Bd)) = eo at *
                have HEO := Lib.hid heo
                clear heo hv
                obtain ⟨⟨ofl, ofn⟩, ⟨otl, otn⟩, omo, okd, oix⟩ := bo
                obtain ⟨v0, v1, v2, v3, v4, v5, v6⟩ := hvv
                obtain ⟨x0, x1, x2, x3, x4, x5, x6⟩ := hyy
                dsimp only at v0 v1 v2 v3 v4 v5 v6 x0 x1 x2 x3 x4 x5 x6 hn3
                try simp only [Nat.zero_mul, Nat.add_zero] at x0 x1 x2 x3 x4 x5 x6
                go_wp2_with fail
                go_quiet (fail)
                try dsimp only [Exit.then]
                have HNZ := Lib.hid (HNQ.out.trans ((New.refl _).drewN nq))
                clear v0 v1 v2 v3 v4 v5 v6 x0 x1 x2 x3 x4 x5 x6 hn3
                try simp only [Nat.zero_mul, Nat.add_zero] at x0 x1 x2 x3 x4 x5 x6
                go_wp2_with fail
                go_roundw
                case rel =>
                  refine ⟨q + 1, eo, by omega, rfl, by go_num, HNZ.out, fun h => ?_, fun h => ?_⟩
                  · have e := HEO.out
                    rw [h] at e
                    have e2 := of_decide_eq_true e
                    rw [← e2]
                    exact HIN.out
                  · have e := HEO.out
                    rw [h] at e
                    exact HB3.out (of_decide_eq_false e)
                case measure => simp [intOf]; omega
              · obtain rfl : q = n := by omega
                have HNN : Hid (¬Chn s l) := Lib.hid (HCN.out fun h => by
                  obtain ⟨i, hi, e⟩ := HG.out _ h
                  exact HB2.out rfl i hi e)
                go_wp2_with fail
                go_ret
                exact ⟨.inr ⟨HNN.out, rfl⟩, HN1.out.trans (HNR.out.trans HNQ.out)⟩
        · have HNN : Hid (¬Chn s l) := Lib.hid (HNC.out fun k => e1 (k.1 (by omega)))
          rw [decide_eq_false e1] at hn1
          clear e1 hn2
          obtain ⟨⟨fl, fn⟩, ⟨tl, tn⟩, mo, kd, ix⟩ := bd
          obtain ⟨⟨jfl, jfn⟩, ⟨jtl, jtn⟩, jmo, jkd, jix⟩ := bj
          obtain ⟨⟨zfl, zfn⟩, ⟨ztl, ztn⟩, zmo, zkd, zix⟩ := bz
          obtain ⟨y0, y1, y2, y3, y4, y5, y6⟩ := hcc
          obtain ⟨j0, j1, j2, j3, j4, j5, j6⟩ := hj
          obtain ⟨z0, z1, z2, z3, z4, z5, z6⟩ := h0
          dsimp only at y0 y1 y2 y3 y4 y5 y6 j0 j1 j2 j3 j4 j5 j6 z0 z1 z2 z3 z4 z5 z6 hn1
          simp only [Nat.zero_mul, Nat.add_zero] at z0 z1 z2 z3 z4 z5 z6
          try dsimp only at hn2
          clear hc hcz
          go_wp2_with fail
          go_quiet (fail)
          dsimp only [Exit.then]
          have HQ := Lib.hid ((New.refl wr).drewN nq)
          go_wp2_with fail
          go_ret
          exact ⟨.inr ⟨HNN.out, rfl⟩, HN1.out.trans (HNR.out.trans HQ.out)⟩
    · obtain rfl : k = l.length := by omega
      have HYS : Hid (Chn s l) := Lib.hid ⟨HLN.out, HA.out⟩
      go_wp2_with fail
      go_ret
      exact ⟨.inl ⟨HYS.out, rfl⟩, HN1.out.trans HNR.out⟩
end Go.Proofs.YtodmbcoobjcooaaDoor
