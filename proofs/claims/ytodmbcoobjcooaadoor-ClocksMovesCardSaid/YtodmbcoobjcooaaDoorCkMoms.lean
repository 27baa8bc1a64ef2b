/-
  Times that are given to Keeps (lists of lists of ints), and which fit a system. Condition: the system and the times lie in memory.
  Lists of bounds of a caller, and total of the program. Condition: the list lies in memory, the sums of its first bounds are within bounds.
-/
import Derived.Test.YtodmbcoobjcooaaDoorCkInterval
namespace Go.Proofs.YtodmbcoobjcooaaDoor
open Go Go.RowKit Go.Shelf
attribute [local go_sem] Oper.semAt_some
/-- Lists of ints in memory. -/
def IssA (w : World) (A : Option Addr) (l : List (List Int)) : Prop :=
  l.length ≤ 9223372036854775807 ∧ (0 < l.length → ∃ b off, A = some ⟨b, off, none⟩ ∧ b < w.heap.size ∧ ∀ i, i < l.length → ∃ B c, w.cell? ⟨b, off + i, none⟩ = some (.slice B (l[i]?.getD []).length c) ∧ IntsA w B (l[i]?.getD []))
theorem IssA.keep {w w' : World} {A : Option Addr} {l : List (List Int)} (h : IssA w A l) (k : New w w') : IssA w' A l :=
  ⟨h.1, fun h0 => by
    obtain ⟨b, off, e, hb, hc⟩ := h.2 h0
    exact ⟨b, off, e, Nat.lt_of_lt_of_le hb k.size, fun i hi => by
      obtain ⟨B, c, h1, h2⟩ := hc i hi
      exact ⟨B, c, k.cellOf h1, h2.keep k⟩⟩⟩
def fitR (l : List Int) (t : Tk) : Bool := decide (l.length = t.times.length) && l.all fun x => wiB x (-1000000) 1000000
def fitB (s : Sy) (l : List (List Int)) : Bool := decide (l.length = s.tracks.length) && (List.range s.tracks.length).all fun i => fitR (l[i]?.getD []) (tkAt s i)
theorem fitB_len {s : Sy} {l : List (List Int)} (h : l.length ≠ s.tracks.length) : fitB s l = false := by simp [fitB, h]
theorem fitB_no {s : Sy} {l : List (List Int)} {i : Nat} (hi : i < s.tracks.length) (h : fitR (l[i]?.getD []) (tkAt s i) = false) : fitB s l = false := by
  cases hb : fitB s l with
  | false => rfl
  | true =>
    unfold fitB at hb
    simp only [Bool.and_eq_true, List.all_eq_true] at hb
    have := hb.2 i (List.mem_range.2 hi)
    rw [h] at this
    cases this
theorem fitB_yes {s : Sy} {l : List (List Int)} (h : l.length = s.tracks.length) (h2 : ∀ i, i < s.tracks.length → fitR (l[i]?.getD []) (tkAt s i) = true) : fitB s l = true := by
  unfold fitB
  simp only [Bool.and_eq_true, List.all_eq_true, decide_eq_true_eq]
  exact ⟨h, fun i hi => h2 i (List.mem_range.1 hi)⟩
theorem fitR_no {l : List Int} {t : Tk} {j : Nat} (hj : j < l.length) (h : wiB (l[j]?.getD 0) (-1000000) 1000000 = false) : fitR l t = false := by
  cases hb : fitR l t with
  | false => rfl
  | true =>
    unfold fitR at hb
    simp only [Bool.and_eq_true, List.all_eq_true] at hb
    have := hb.2 _ (List.getElem_mem hj)
    rw [List.getElem?_eq_getElem hj] at h
    rw [show wiB l[j] (-1000000) 1000000 = false from h] at this
    cases this
theorem fitR_yes {l : List Int} {t : Tk} (h : l.length = t.times.length) (h2 : ∀ j, j < l.length → wiB (l[j]?.getD 0) (-1000000) 1000000 = true) : fitR l t = true := by
  unfold fitR
  simp only [Bool.and_eq_true, List.all_eq_true, decide_eq_true_eq]
  refine ⟨h, fun x hx => ?_⟩
  obtain ⟨j, hj, rfl⟩ := List.getElem_of_mem hx
  have := h2 j hj
  rw [List.getElem?_eq_getElem hj] at this
  exact this
set_option maxRecDepth 100000 in
set_option maxHeartbeats 8000000 in
theorem ck_fit (s : Sy) (l : List (List Int)) (A D L : Option Addr) (c d lc : Nat) (w : World) (hM : SysM w A D s) (hL : IssA w L l) :
    Calls Tryd.prog 88 #[.slice L l.length lc, .agg #[.slice A s.tracks.length c, .slice D s.ties.length d, .int .i64 s.window]] w fun e w' => e = .returned (.bool (fitB s l)) ∧ New w w' := by
  have n1 := (New.refl w).alloc (.cells #[.slice A s.tracks.length c, .slice D s.ties.length d, .int .i64 s.window] 25)
  have HR1 := Lib.hid (RowIs.new w 25 [.slice A s.tracks.length c, .slice D s.ties.length d, .int .i64 s.window])
  have HN1 := Lib.hid n1
  have HM := Lib.hid hM
  have HL := Lib.hid hL
  have HNO : Hid (∀ i, i < s.tracks.length → fitR (l[i]?.getD []) (tkAt s i) = false → fitB s l = false) := Lib.hid fun i h1 h2 => fitB_no h1 h2
  have HYE : Hid (l.length = s.tracks.length → (∀ i, i < s.tracks.length → fitR (l[i]?.getD []) (tkAt s i) = true) → fitB s l = true) := Lib.hid fun h1 h2 => fitB_yes h1 h2
  have HLE : Hid (l.length ≠ s.tracks.length → fitB s l = false) := Lib.hid fitB_len
  have hml := hM.1.1
  generalize fitB s l = fb at *
  clear n1 hM hL
  have c0 := HR1.out.cell (i := 0) rfl
  go_enter Tryd.func88, Tryd.ntmps88
  by_cases hne : l.length = s.tracks.length
  · have hne' : ((l.length : Int) != (s.tracks.length : Int)) = false := by simp; omega
    have HNE := Lib.hid hne
    clear hne
    go_wp2_with fail
    generalize hW1 : w.alloc (.cells #[.slice A s.tracks.length c, .slice D s.ties.length d, .int .i64 s.window] 25) = W1 at *
    go_loopw [18] (fun i wr => ∃ k : Nat, k ≤ s.tracks.length ∧ i = .int .i64 k ∧ New W1 wr ∧ ∀ i, i < k → fitR (l[i]?.getD []) (tkAt s i) = true) (fun i _ => s.tracks.length - (intOf i).toNat)
    case atStart => exact ⟨0, Nat.zero_le _, rfl, New.refl _, fun i h => absurd h (Nat.not_lt_zero i)⟩
    case round =>
      obtain ⟨k, hk, rfl, hn, hall⟩ := hrel
      have HA := Lib.hid hall
      have HN := Lib.hid hn
      clear hn hall
      by_cases hlt : k < s.tracks.length
      · have ik : (k : Int) < (s.tracks.length : Int) := by omega
        have ik2 : (k : Int) < (l.length : Int) := by have := HNE.out; omega
        obtain ⟨b, off, rfl, -, hc⟩ := (HM.out.1.keep (HN1.out.trans HN.out)).2 (by omega)
        obtain ⟨JA, jc, TA, tc, z0, z1, z2, z3, -, -⟩ := hc k hlt
        obtain ⟨lb, lo, rfl, -, hcl⟩ := (HL.out.keep (HN1.out.trans HN.out)).2 (by have := HNE.out; omega)
        obtain ⟨B, bc, y0, hB⟩ := hcl k (by have := HNE.out; omega)
        have et : s.tracks[k]?.getD default = tkAt s k := rfl
        rw [et] at z0 z1 z2 z3
        have HBI := Lib.hid hB
        have HNK : Hid (fitR (l[k]?.getD []) (tkAt s k) = false → fb = false) := Lib.hid (HNO.out k hlt)
        have HSU : Hid (fitR (l[k]?.getD []) (tkAt s k) = true → ∀ i, i < k + 1 → fitR (l[i]?.getD []) (tkAt s i) = true) := Lib.hid fun h i hi => by
          by_cases e : i < k
          · exact HA.out i e
          · obtain rfl : i = k := by omega
            exact h
        clear hc hcl hB et
        have HRN : Hid (∀ j, j < (l[k]?.getD []).length → wiB ((l[k]?.getD [])[j]?.getD 0) (-1000000) 1000000 = false → fitR (l[k]?.getD []) (tkAt s k) = false) := Lib.hid fun j h1 h2 => fitR_no h1 h2
        have HRY : Hid ((l[k]?.getD []).length = (tkAt s k).times.length → (∀ j, j < (l[k]?.getD []).length → wiB ((l[k]?.getD [])[j]?.getD 0) (-1000000) 1000000 = true) → fitR (l[k]?.getD []) (tkAt s k) = true) := Lib.hid fun h1 h2 => fitR_yes h1 h2
        have HRL : Hid ((l[k]?.getD []).length ≠ (tkAt s k).times.length → fitR (l[k]?.getD []) (tkAt s k) = false) := Lib.hid fun h => by simp [fitR, h]
        generalize fitR (l[k]?.getD []) (tkAt s k) = fr at *
        generalize l[k]?.getD [] = m at *
        generalize htl : (tkAt s k).times.length = tl at *
        have R5 := RowIs.new wr 30 [.int .i64 (tkAt s k).slip, .int .i64 (tkAt s k).drift, .slice JA (tkAt s k).jumps.length jc, .slice TA tl tc]
        have r3 := R5.cell (i := 3) rfl
        have n5 := (New.refl wr).alloc (.cells #[.int .i64 (tkAt s k).slip, .int .i64 (tkAt s k).drift, .slice JA (tkAt s k).jumps.length jc, .slice TA tl tc] 30)
        have HN5 := Lib.hid n5
        have u0 := n5.cellOf y0
        clear R5 n5
        have hmb := HBI.out.1
        go_wp2_with fail
        go_quiet (fail)
        dsimp only [Exit.then]
        have hk6 := HN5.out.drewN nq
        have HN6 := Lib.hid (hk6)
        have u1 := hk6.cellOf y0
        clear u0 r3 hk6 HN5 z0 z1 z2 z3
        generalize (wr.alloc (.cells #[.int .i64 (tkAt s k).slip, .int .i64 (tkAt s k).drift, .slice JA (tkAt s k).jumps.length jc, .slice TA tl tc] 30)).drewN nq = W6 at *
        generalize hmt : ((m.length : Int) != (tl : Int)) = mt at *
        cases mt with
        | false =>
          have HML : Hid (m.length = tl) := Lib.hid (by simp at hmt; omega)
          clear hmt
          go_wp2_with fail
          go_loopw [37] (fun i w' => ∃ j : Nat, j ≤ m.length ∧ i = .int .i64 j ∧ New W6 w' ∧ ∀ i, i < j → wiB (m[i]?.getD 0) (-1000000) 1000000 = true) (fun i _ => m.length - (intOf i).toNat)
          case atStart => exact ⟨0, Nat.zero_le _, rfl, New.refl _, fun i h => absurd h (Nat.not_lt_zero i)⟩
          case round =>
            obtain ⟨j, hj, rfl, hnj, hja⟩ := hrel
            have HJ := Lib.hid hja
            have HNJ := Lib.hid hnj
            clear hnj hja
            by_cases hjt : j < m.length
            · have i2 : (j : Int) < (m.length : Int) := by omega
              obtain ⟨mb, mo, rfl, -, hmc⟩ := (HBI.out.keep (HN6.out.trans HNJ.out)).2 (by omega)
              have v0 := hmc j hjt
              have HJN : Hid (wiB (m[j]?.getD 0) (-1000000) 1000000 = false → fr = false) := Lib.hid (HRN.out j hjt)
              have HJS : Hid (wiB (m[j]?.getD 0) (-1000000) 1000000 = true → ∀ i, i < j + 1 → wiB (m[i]?.getD 0) (-1000000) 1000000 = true) := Lib.hid fun h i hi => by
                by_cases e : i < j
                · exact HJ.out i e
                · obtain rfl : i = j := by omega
                  exact h
              clear hmc u1
              generalize m[j]?.getD 0 = x at *
              cases hb : wiB x (-1000000) 1000000 with
              | false =>
                obtain rfl := HNK.out (HJN.out hb)
                go_wp2_with fail
                refine (ck_withinIs hb _).mono ?_
                rintro e w7 ⟨rfl, rfl⟩
                go_wp2_with fail
                go_ret
                exact ⟨rfl, HN1.out.trans (HN.out.trans (HN6.out.trans HNJ.out))⟩
              | true =>
                go_wp2_with fail
                refine (ck_withinIs hb _).mono ?_
                rintro e w7 ⟨rfl, rfl⟩
                go_wp2_with fail
                go_roundw
                case rel => exact ⟨j + 1, by omega, by go_num, HNJ.out, HJS.out hb⟩
                case measure => simp [intOf]; omega
            · obtain rfl : j = m.length := by omega
              have hfr := HRY.out HML.out HJ.out
              have HS2 := Lib.hid (HSU.out hfr)
              clear hfr
              go_wp2_with fail
              go_roundw
              case rel => exact ⟨k + 1, by omega, by go_num, HN.out.trans (HN6.out.trans HNJ.out), HS2.out⟩
              case measure => simp [intOf]; omega
        | true =>
          have hml2 : m.length ≠ tl := by intro h; simp [h] at hmt
          obtain rfl := HNK.out (HRL.out hml2)
          go_wp2_with fail
          go_ret
          exact ⟨rfl, HN1.out.trans (HN.out.trans HN6.out)⟩
      · obtain rfl : k = s.tracks.length := by omega
        obtain rfl := HYE.out HNE.out HA.out
        go_wp2_with fail
        go_ret
        exact ⟨rfl, HN1.out.trans HN.out⟩
  · have hne' : ((l.length : Int) != (s.tracks.length : Int)) = true := by simp; omega
    obtain rfl := HLE.out hne
    go_wp2_with fail
    go_ret
    exact ⟨rfl, HN1.out⟩
/-- The minute of a line or of the beginning. -/
def momAt (l : List (List Int)) (r : Rf) : Int := if r.log = -1 ∧ r.line = 0 then 0 else (l[r.log.toNat]?.getD [])[r.line.toNat]?.getD 0
/-- A ref that is the beginning, or has a minute. -/
def MomOk (l : List (List Int)) (r : Rf) : Prop := r = beg ∨ (0 ≤ r.log ∧ r.log < l.length ∧ 0 ≤ r.line ∧ r.line < (l[r.log.toNat]?.getD []).length)
set_option maxRecDepth 100000 in
set_option maxHeartbeats 4000000 in
theorem ck_at (l : List (List Int)) (L : Option Addr) (lc : Nat) (r : Rf) (w : World) (hbeg : BegA w) (hL : IssA w L l) (hr : MomOk l r) :
    Calls Tryd.prog 119 #[.slice L l.length lc, .agg #[.int .i64 r.log, .int .i64 r.line]] w fun e w' => e = .returned (.int .i64 (momAt l r)) ∧ New w w' := by
  have n1 := (New.refl w).alloc (.cells #[.int .i64 r.log, .int .i64 r.line] 53)
  have r1 := RowIs.new w 53 [.int .i64 r.log, .int .i64 r.line]
  have b0 := n1.cellOf hbeg.1
  have b1 := n1.cellOf hbeg.2
  have hbl := lt_of_cell b0
  rcases hr with rfl | ⟨h1, h2, h3, h4⟩
  · have c0 := r1.cell (i := 0) rfl
    have c1 := r1.cell (i := 1) rfl
    have HN1 := Lib.hid n1
    clear n1 r1 hL hbeg
    dsimp only [beg] at c0 c1 b0 b1 ⊢
    go_enter Tryd.func119, Tryd.ntmps119
    go_wp2_with fail
    go_ret
    exact ⟨rfl, HN1.out⟩
  · obtain ⟨log, line⟩ := r
    dsimp only at h1 h2 h3 h4 r1 n1 b0 b1 ⊢
    obtain ⟨i, rfl⟩ : ∃ i : Nat, log = i := ⟨log.toNat, by omega⟩
    obtain ⟨j, rfl⟩ : ∃ j : Nat, line = j := ⟨line.toNat, by omega⟩
    have hi : i < l.length := by omega
    simp only [Int.toNat_natCast] at h4
    have hj : j < (l[i]?.getD []).length := by omega
    have HE : Hid (momAt l ⟨i, j⟩ = (l[i]?.getD [])[j]?.getD 0) := Lib.hid (by
      unfold momAt
      rw [if_neg (by simp)]
      simp)
    rw [HE.out]
    obtain ⟨lb, lo, rfl, -, hcl⟩ := (hL.keep n1).2 (by omega)
    obtain ⟨B, bc, y0, hB⟩ := hcl i hi
    obtain ⟨mb, mo, rfl, -, hmc⟩ := hB.2 (by omega)
    have v0 := hmc j hj
    have i1 : (i : Int) < (l.length : Int) := by omega
    have i2 : (j : Int) < ((l[i]?.getD []).length : Int) := by omega
    have k1 := hL.1
    have k2 := hB.1
    have c0 := r1.cell (i := 0) rfl
    have c1 := r1.cell (i := 1) rfl
    have HN1 := Lib.hid n1
    clear n1 r1 hL hbeg hcl hB hmc h1 h2 h3 h4 HE
    generalize l[i]?.getD [] = m at *
    generalize m[j]?.getD 0 = x at *
    go_enter Tryd.func119, Tryd.ntmps119
    have e1 : ((i : Int) == -1) = false := by simp
    go_wp2_with fail
    go_quiet (fail)
    have HN2 := Lib.hid (HN1.out.drewN nq)
    generalize (w.alloc (.cells #[.int .i64 i, .int .i64 j] 53)).drewN nq = W2 at *
    go_wp2_with fail
    go_ret
    exact ⟨rfl, HN2.out⟩
/-- Minutes keep a bound. -/
def keepB (l : List (List Int)) (b : Bd) : Bool := decide (momAt l b.to ≤ momAt l b.frm + b.most)
set_option maxRecDepth 100000 in
set_option maxHeartbeats 4000000 in
theorem ck_keep (l : List (List Int)) (L : Option Addr) (lc : Nat) (b : Bd) (w : World) (hbeg : BegA w) (hL : IssA w L l) (hf : MomOk l b.frm) (ht : MomOk l b.to) (hm : -1000000 ≤ momAt l b.frm ∧ momAt l b.frm ≤ 1000000) (hb : -1000000 ≤ b.most ∧ b.most ≤ 1000000) :
    Calls Tryd.prog 89 #[.slice L l.length lc, .agg #[.int .i64 b.frm.log, .int .i64 b.frm.line, .int .i64 b.to.log, .int .i64 b.to.line, .int .i64 b.most, .int .i64 b.kind, .int .i64 b.id]] w fun e w' => e = .returned (.bool (keepB l b)) ∧ New w w' := by
  have n1 := (New.refl w).alloc (.cells #[.int .i64 b.frm.log, .int .i64 b.frm.line, .int .i64 b.to.log, .int .i64 b.to.line, .int .i64 b.most, .int .i64 b.kind, .int .i64 b.id] 91)
  have HR := Lib.hid (RowIs.new w 91 [.int .i64 b.frm.log, .int .i64 b.frm.line, .int .i64 b.to.log, .int .i64 b.to.line, .int .i64 b.most, .int .i64 b.kind, .int .i64 b.id])
  have HN1 := Lib.hid n1
  have HA1 : Hid (∀ w', New w w' → _) := Lib.hid fun w' h => ck_at l L lc b.frm w' ⟨h.cellOf hbeg.1, h.cellOf hbeg.2⟩ (hL.keep h) hf
  have HA2 : Hid (∀ w', New w w' → _) := Lib.hid fun w' h => ck_at l L lc b.to w' ⟨h.cellOf hbeg.1, h.cellOf hbeg.2⟩ (hL.keep h) ht
  have HKB : Hid (keepB l b = decide (momAt l b.to ≤ momAt l b.frm + b.most)) := Lib.hid rfl
  rw [HKB.out]
  generalize momAt l b.to = y at *
  generalize momAt l b.frm = x at *
  clear hbeg hL hf ht HKB n1
  obtain ⟨⟨fl, fn⟩, ⟨tl, tn⟩, mo, kd, ix⟩ := b
  dsimp only at HA1 HA2 HR HN1 hb ⊢
  have hw : IntKind.i64.wrap (x + mo) = x + mo := IntWalk.i64_in _ (by omega)
  generalize hW1 : w.alloc (.cells #[.int .i64 fl, .int .i64 fn, .int .i64 tl, .int .i64 tn, .int .i64 mo, .int .i64 kd, .int .i64 ix] 91) = W1 at *
  have HK : Hid (∀ w', New W1 w' → (fun w' => New W1 w' ∧ (w'.cell? ⟨w.heap.size, 0, none⟩ = some (.int .i64 fl) ∧ w'.cell? ⟨w.heap.size, 1, none⟩ = some (.int .i64 fn) ∧ w'.cell? ⟨w.heap.size, 2, none⟩ = some (.int .i64 tl) ∧ w'.cell? ⟨w.heap.size, 3, none⟩ = some (.int .i64 tn) ∧ w'.cell? ⟨w.heap.size, 4, none⟩ = some (.int .i64 mo))) w') := Lib.hid fun w' h => ⟨h, (HR.out.keep h).cell rfl, (HR.out.keep h).cell rfl, (HR.out.keep h).cell rfl, (HR.out.keep h).cell rfl, (HR.out.keep h).cell rfl⟩
  dsimp only at HK
  go_enter Tryd.func89, Tryd.ntmps89
  go_wp2_with fail
  go_region_held3 (fun w' => New W1 w' ∧ (w'.cell? ⟨w.heap.size, 0, none⟩ = some (.int .i64 fl) ∧ w'.cell? ⟨w.heap.size, 1, none⟩ = some (.int .i64 fn) ∧ w'.cell? ⟨w.heap.size, 2, none⟩ = some (.int .i64 tl) ∧ w'.cell? ⟨w.heap.size, 3, none⟩ = some (.int .i64 tn) ∧ w'.cell? ⟨w.heap.size, 4, none⟩ = some (.int .i64 mo)))
    (first | exact HK.out _ (New.refl _).drew | exact HK.out _ (New.trans (by first | assumption | exact (by assumption : New _ _ ∧ _).1) (by assumption)))
    (first | (go_at_call 119; with_reducible (refine (HA1.out _ (HN1.out.trans (by first | assumption | exact (New.refl _).drew | exact (by assumption : New _ _ ∧ _).1))).mono ?_); rintro e w' ⟨rfl, hb⟩) | (go_at_call 119; with_reducible (refine (HA2.out _ (HN1.out.trans (by first | assumption | exact (New.refl _).drew | exact (by assumption : New _ _ ∧ _).1))).mono ?_); rintro e w' ⟨rfl, hb⟩))
  all_goals
    have hn : New W1 w' := by first | assumption | exact (by assumption : New W1 w' ∧ _).1
    go_wp2_with fail
    go_ret
    exact ⟨rfl, HN1.out.trans hn⟩
end Go.Proofs.YtodmbcoobjcooaaDoor

namespace Go.Proofs.YtodmbcoobjcooaaDoor
open Go Go.RowKit Go.Shelf
attribute [local go_sem] Oper.semAt_some
/-- A bound in memory. -/
def BdC (w : World) (b o : Nat) (x : Bd) : Prop :=
  w.cell? ⟨b, o, none⟩ = some (.int .i64 x.frm.log) ∧ w.cell? ⟨b, o + 1, none⟩ = some (.int .i64 x.frm.line) ∧ w.cell? ⟨b, o + 2, none⟩ = some (.int .i64 x.to.log) ∧ w.cell? ⟨b, o + 3, none⟩ = some (.int .i64 x.to.line) ∧ w.cell? ⟨b, o + 4, none⟩ = some (.int .i64 x.most) ∧ w.cell? ⟨b, o + 5, none⟩ = some (.int .i64 x.kind) ∧ w.cell? ⟨b, o + 6, none⟩ = some (.int .i64 x.id)
theorem BdC.keep {w w' : World} {b o : Nat} {x : Bd} (h : BdC w b o x) (k : New w w') : BdC w' b o x := ⟨k.cellOf h.1, k.cellOf h.2.1, k.cellOf h.2.2.1, k.cellOf h.2.2.2.1, k.cellOf h.2.2.2.2.1, k.cellOf h.2.2.2.2.2.1, k.cellOf h.2.2.2.2.2.2⟩
def BnsA (w : World) (A : Option Addr) (l : List Bd) : Prop :=
  l.length ≤ 9223372036854775807 ∧ (0 < l.length → ∃ b off, A = some ⟨b, off, none⟩ ∧ b < w.heap.size ∧ ∀ i, i < l.length → BdC w b (off + i * 7) (l[i]?.getD default))
theorem BnsA.keep {w w' : World} {A : Option Addr} {l : List Bd} (h : BnsA w A l) (k : New w w') : BnsA w' A l :=
  ⟨h.1, fun h0 => by
    obtain ⟨b, off, e, hb, hc⟩ := h.2 h0
    exact ⟨b, off, e, Nat.lt_of_lt_of_le hb k.size, fun i hi => (hc i hi).keep k⟩⟩
def sumB (l : List Bd) : Int := (l.map (·.most)).sum
theorem sumB_succ {l : List Bd} {k : Nat} (h : k < l.length) : sumB (l.take (k + 1)) = sumB (l.take k) + (l[k]?.getD default).most := by
  unfold sumB
  rw [take_at h, List.map_append, List.sum_append]
  simp
set_option maxRecDepth 100000 in
set_option maxHeartbeats 4000000 in
theorem ck_total (l : List Bd) (L : Option Addr) (lc : Nat) (w : World) (hL : BnsA w L l) (hb : ∀ k, k ≤ l.length → -1000000000000 ≤ sumB (l.take k) ∧ sumB (l.take k) ≤ 1000000000000) :
    Calls Tryd.prog 92 #[.slice L l.length lc] w fun e w' => e = .returned (.int .i64 (sumB l)) ∧ New w w' := by
  have HL := Lib.hid hL
  have HB := Lib.hid hb
  have hll := hL.1
  clear hL hb
  go_enter Tryd.func92, Tryd.ntmps92
  go_wp2_with fail
  go_loopw [3, 8] (fun n i wr => ∃ k : Nat, k ≤ l.length ∧ n = .int .i64 (sumB (l.take k)) ∧ i = .int .i64 k ∧ New w wr) (fun _ i _ => l.length - (intOf i).toNat)
  case atStart => exact ⟨0, Nat.zero_le _, rfl, rfl, New.refl _⟩
  case round =>
    obtain ⟨k, hk, rfl, rfl, hn⟩ := hrel
    have HN := Lib.hid hn
    clear hn
    by_cases hlt : k < l.length
    · have ik : (k : Int) < (l.length : Int) := by omega
      have b1 := HB.out (k + 1) (by omega)
      have HS : Hid (sumB (l.take (k + 1)) = sumB (l.take k) + (l[k]?.getD default).most) := Lib.hid (sumB_succ hlt)
      rw [HS.out] at b1
      obtain ⟨b, off, rfl, -, hc⟩ := (HL.out.keep HN.out).2 (by omega)
      have hcc := hc k hlt
      clear hc
      generalize hgS : sumB (l.take k) = S at *
      generalize l[k]?.getD default = x at *
      obtain ⟨⟨fl, fn⟩, ⟨tl, tn⟩, mo, kd, ix⟩ := x
      obtain ⟨z0, z1, z2, z3, z4, z5, z6⟩ := hcc
      dsimp only at z0 z1 z2 z3 z4 z5 z6 b1 HS
      have hw : IntKind.i64.wrap (S + mo) = S + mo := IntWalk.i64_in _ (by omega)
      have n1 := HN.out.alloc (.cells #[.int .i64 fl, .int .i64 fn, .int .i64 tl, .int .i64 tn, .int .i64 mo, .int .i64 kd, .int .i64 ix] 91)
      have HN1 := Lib.hid n1
      have R := RowIs.new wr 91 [.int .i64 fl, .int .i64 fn, .int .i64 tl, .int .i64 tn, .int .i64 mo, .int .i64 kd, .int .i64 ix]
      have r4 := R.cell (i := 4) rfl
      clear n1 R hgS
      go_wp2_with fail
      go_roundw
      case rel => exact ⟨k + 1, by omega, by rw [HS.out], by go_num, HN1.out⟩
      case measure => simp [intOf]; omega
    · have h2 : l.take k = l := List.take_of_length_le (by omega)
      rw [h2]
      clear h2
      go_wp2_with fail
      go_ret
      exact ⟨rfl, HN.out⟩
end Go.Proofs.YtodmbcoobjcooaaDoor
