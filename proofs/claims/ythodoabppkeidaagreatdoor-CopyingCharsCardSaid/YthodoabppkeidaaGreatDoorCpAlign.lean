/-
  Align of the program: the first alignment of least cost. Condition: the tables lie in memory; texts of at most 1000000 bytes.
-/
import Derived.Test.YthodoabppkeidaaGreatDoorCpRest
import Derived.Deep.LoopGhost
namespace Go.Proofs.YthodoabppkeidaaGreatDoor
open Go Go.RowKit
theorem stsC_at : ∀ {l : List Stp} {j : Nat} {t : Stp}, l[j]? = some t → ∀ r, r < 3 → (stsC l)[j * 3 + r]? = (stC t)[r]?
  | [], j, t, h, _, _ => by simp at h
  | x :: l, 0, t, h, r, hr => by
    obtain rfl : x = t := by simpa using h
    rw [stsC, List.flatMap_cons, List.getElem?_append_left (by simp [stC]; omega), Nat.zero_mul, Nat.zero_add]
  | x :: l, j + 1, t, h, r, hr => by
    have h' : l[j]? = some t := by simpa using h
    rw [stsC, List.flatMap_cons, List.getElem?_append_right (by simp [stC]; omega), ← stsC, show (j + 1) * 3 + r - (stC x).length = j * 3 + r by simp [stC]; omega]
    exact stsC_at h' r hr
/-- Steps of the call's own lie elsewhere than a place. -/
theorem sts_ne {w : World} {b g : Nat} {v : Value} {l : List Stp} {cs : List Value} (h : StsAt w b v l) (r : RowIs w g 95 cs) : v.ownBlock ≠ some g := by
  rcases h.2 with ⟨rfl, _⟩ | ⟨g', cap, cur, rfl, _, hg, _⟩
  · simp [Value.ownBlock]
  · intro e
    obtain rfl : g' = g := by simpa [Value.ownBlock] using e
    rw [RowIs] at r
    rw [r] at hg
    simp at hg
theorem StsAt.keep {w w' : World} {b : Nat} {v : Value} {l : List Stp} (h : StsAt w b v l) (k : New w w') : StsAt w' b v l := owns_keep h k
theorem StsAt.put {w : World} {b g : Nat} {v : Value} {l : List Stp} {cs : List Value} (h : StsAt w b v l) (r : RowIs w g 95 cs) (i : Nat) (u : Value) : StsAt (w.setCell ⟨g, i, none⟩ u) b v l :=
  h.kept (setCells_grown (w := w) (g := g) [u] i) (.inr (fun e => sts_ne h r e))
theorem RowIs.grown {w w' : World} {b g : Nat} {v : Value} {l : List Stp} {cs : List Value} (r : RowIs w g 95 cs) (h : StsAt w b v l) (k : w.grownBy w' v.ownBlock) : RowIs w' g 95 cs :=
  (k.block g r.lt (fun e => sts_ne h r e.symm)).trans r
theorem RowIs.put2 {w : World} {g : Nat} {e : TypeId} {x y : Value} (h : RowIs w g e [x, y]) (a b : Value) : RowIs ((w.setCell ⟨g, 0, none⟩ a).setCell ⟨g, 1, none⟩ b) g e [a, b] := (h.put 0 a).put 1 b
/-- The j-th step of a slice of steps. -/
theorem StsAt.cells {w : World} {b : Nat} {v : Value} {l : List Stp} (h : StsAt w b v l) {j : Nat} {t : Stp} (ht : l[j]? = some t) : ∃ g cap, v = .slice (some ⟨g, 0, none⟩) l.length cap ∧ g < w.heap.size ∧ l.length ≤ cap ∧ cap ≤ maxLen ∧
    w.cell? ⟨g, j * 3, none⟩ = some (.int .i64 t.1) ∧ w.cell? ⟨g, j * 3 + 1, none⟩ = some (.int .i64 t.2.1) ∧ w.cell? ⟨g, j * 3 + 2, none⟩ = some (.int .i64 t.2.2) := by
  have hj : j < l.length := (List.getElem?_eq_some_iff.1 ht).1
  have hown : w.ownsRow b 65 3 v l.length (stsC l) := h
  rcases h.2 with ⟨rfl, hz⟩ | ⟨g, cap, cur, rfl, hb, hh, h1, h2, h3, h4⟩
  · omega
  · have hc : ∀ i x, (stsC l)[i]? = some x → w.cell? ⟨g, i, none⟩ = some x := fun i x hx => by
      have hi : i < (stsC l).length := (List.getElem?_eq_some_iff.1 hx).1
      rw [stsC_len] at hi
      rw [hown.cellAt i (by omega), hx]
    have e0 : ∀ r, r < 3 → (stsC l)[j * 3 + r]? = (stC t)[r]? := fun r hr => by
      have := stsC_at (l := l) ht r hr
      exact this
    exact ⟨g, cap, rfl, (Array.getElem?_eq_some_iff.1 hh).1, h1, h2, hc _ _ ((e0 0 (by omega)).trans rfl), hc _ _ ((e0 1 (by omega)).trans rfl), hc _ _ ((e0 2 (by omega)).trans rfl)⟩
theorem stps_cost {F : List Bytes} {m : Md} {s h : List Nat} (ks : ∀ k ∈ s, k < 37) (kh : ∀ k ∈ h, k < 37) {p : Nat × Nat} {t : Stp} (ht : t ∈ stpsL (mdC F m) s h p) : t.2.2 ≤ 10 := by
  obtain ⟨h1, h2, h3, h4⟩ := md_small m
  rcases stps_cases ht with ⟨a, b, e1, e⟩ | ⟨a, e1, e⟩ | ⟨a, e1, e⟩
  · rw [e1, getD_at s a, getD_at h b]
    exact mdC_le m (ks _ (List.getElem_mem _)) (kh _ (List.getElem_mem _))
  · rw [e1]; show (mdC F m).ms ≤ 10; rw [mdC_ms]; omega
  · rw [e1]; show (mdC F m).ex ≤ 10; rw [mdC_ex]; omega
set_option maxRecDepth 100000 in
set_option maxHeartbeats 2000000 in
theorem cp_Align_ok (F : List Bytes) (m : Md) (mode : Int) (s h : Bytes) (w : World) (hT : TabAt w F) (hm : mdOf mode = some m) {a b : List Nat} (ha : keysOf s = some a) (hb : keysOf h = some b) (ls : s.length ≤ 64) (lh : h.length ≤ 64) :
    Calls Tryz.prog 26 #[.int .i64 mode, .string (B s), .string (B h)] w fun e w' => ∃ v, e = .returned (.tuple #[v, .int .i64 0]) ∧ (StsAt w' w.heap.size v (alL (mdC F m) a b) ∧ New w w') := by
  have hc := cp_newHearing_ok m mode s h w hm ls lh ha hb
  have la : a.length ≤ 64 := by rw [keysOf_len ha]; exact ls
  have lb : b.length ≤ 64 := by rw [keysOf_len hb]; exact lh
  have HC := Lib.hid hc
  have HT := Lib.hid hT
  have HK := Lib.hid (And.intro (keysOf_lt ha) (keysOf_lt hb))
  clear hc hT hm ha hb
  unfold hearV at HC
  rw [medV_eq] at HC
  go_enter Tryz.func26, Tryz.ntmps26
  go_wp2_with fail
  refine HC.out.mono ?_
  rintro e w1 ⟨g1, g2, rfl, h1, r1, r2⟩
  have hx := hear_made (m := m) r1 r2 HK.out.1 HK.out.2 la lb
  unfold ksl at hx ⊢
  generalize htm : medT m = tm at *
  have HX1 := Lib.hid hx
  have HN1 := Lib.hid h1
  clear hx r1 r2 h1 HC
  have rb := RowIs.new w1 89 [.iface tm (.agg #[]), .slice (some ⟨g1, 0, none⟩) a.length a.length, .slice (some ⟨g2, 0, none⟩) b.length b.length]
  have HRB := Lib.hid rb
  clear rb
  go_wp2_with fail
  have k2 := (New.refl w1).alloc (.cells #[.iface tm (.agg #[]), .slice (some ⟨g1, 0, none⟩) a.length a.length, .slice (some ⟨g2, 0, none⟩) b.length b.length] 89)
  have hs2 : (w1.alloc (.cells #[.iface tm (.agg #[]), .slice (some ⟨g1, 0, none⟩) a.length a.length, .slice (some ⟨g2, 0, none⟩) b.length b.length] 89)).heap.size = w1.heap.size + 1 := by simp
  have HX2 := Lib.hid (HX1.out.keep k2)
  have HN2 := Lib.hid (HN1.out.trans k2)
  generalize w1.alloc (.cells #[.iface tm (.agg #[]), .slice (some ⟨g1, 0, none⟩) a.length a.length, .slice (some ⟨g2, 0, none⟩) b.length b.length] 89) = w2 at *
  refine (cp_end m a b _ _ HX2.out).mono ?_
  rintro e w3 ⟨rfl, n3⟩
  unfold plV
  simp only
  have c30 := (HRB.out.keep n3).cell (i := 0) rfl
  have c31 := (HRB.out.keep n3).cell (i := 1) rfl
  have c32 := (HRB.out.keep n3).cell (i := 2) rfl
  have e30 := fun o => cell_alloc_some o c30
  have e31 := fun o => cell_alloc_some o c31
  have e32 := fun o => cell_alloc_some o c32
  have HN3 := Lib.hid n3
  clear n3 k2
  go_wp2_with fail
  have k4 := (New.refl w3).alloc (.cells #[.int .i64 a.length, .int .i64 b.length] 95)
  have HE4 := Lib.hid (RowIs.new w3 95 [.int .i64 a.length, .int .i64 b.length])
  have hs4 : (w3.alloc (.cells #[.int .i64 a.length, .int .i64 b.length] 95)).heap.size = w3.heap.size + 1 := by simp
  generalize w3.alloc (.cells #[.int .i64 a.length, .int .i64 b.length] 95) = w4 at *
  have HN4 := Lib.hid (HN3.out.trans k4)
  clear k4 c30 c31 c32 e30 e31 e32
  refine (cp_turned m a b _ _ (HX2.out.keep HN4.out)).mono ?_
  rintro e w5 ⟨X, rfl, x5, n5⟩
  have HN5 := Lib.hid (HN4.out.trans n5)
  have HE5 := Lib.hid (HE4.out.keep n5)
  have hs5 := n5.size
  clear n5
  go_wp2_with fail
  refine (cp_table F m a.reverse b.reverse _ _ (HT.out.keep (HN2.out.trans HN5.out)) x5).mono ?_
  rintro e w6 ⟨v, rfl, t6, n6⟩
  rw [List.length_reverse] at t6
  obtain ⟨vs, ho, hr⟩ := t6
  obtain ⟨A, cA, rfl⟩ := owns_form ho
  have HT6 : Hid (TabsAt w6 w5.heap.size (.slice A _ cA) ((List.range (a.length + 1)).map (tabRow (mdC F m) a.reverse b.reverse))) := Lib.hid ⟨vs, ho, hr⟩
  simp only [List.length_map, List.length_range] at HT6 ⊢
  have HN6 := Lib.hid (HN5.out.trans n6)
  have HE6 := Lib.hid (HE5.out.keep n6)
  have hs6 := n6.size
  clear n6 ho hr x5
  go_wp2_with fail
  have k7 := (New.refl w6).alloc (.cells #[.slice A (a.length + 1) cA] 23)
  have hb7 := RowIs.new w6 23 [.slice A (a.length + 1) cA]
  have hs7 : (w6.alloc (.cells #[.slice A (a.length + 1) cA] 23)).heap.size = w6.heap.size + 1 := by simp
  have HR7 : Hid (RestAt (w6.alloc (.cells #[.slice A (a.length + 1) cA] 23)) (mdC F m) a b w5.heap.size w6.heap.size w3.heap.size) := Lib.hid ⟨⟨_, hb7.cell (i := 0) rfl, HT6.out.keep k7⟩, HE6.out.keep k7, by rw [hs7]; omega⟩
  have HX7 := Lib.hid (HX2.out.keep (HN6.out.trans k7))
  have HB7 := Lib.hid (HRB.out.keep (HN6.out.trans k7))
  have HT7 := Lib.hid (HT.out.keep (HN2.out.trans (HN6.out.trans k7)))
  have HN7 := Lib.hid (HN2.out.trans (HN6.out.trans k7))
  generalize w6.alloc (.cells #[.slice A (a.length + 1) cA] 23) = W at *
  rw [← hs7]
  clear HRB HX2 HN2 HN3 HE4 HN4 HN5 HE5 HT6 HN6 HE6 k7 hb7
  go_loopg [14, 13] (leftL a b (0, 0)) (fun gk s14 s13 wr => ∃ (p : Nat × Nat) (n gp : Nat) (pre : List Stp), s14 = .pointer (some ⟨gp, 0, none⟩) ∧ StsAt wr W.heap.size s13 pre ∧ RowIs wr gp 95 [.int .i64 p.1, .int .i64 p.2] ∧ W.heap.size ≤ gp ∧ New W wr ∧
    InL a b p ∧ leftL a b p ≤ gk ∧ leftL a b p ≤ n ∧ pre ++ alG (mdC F m) a b n p = alL (mdC F m) a b)
  case atStart =>
    exact ⟨(0, 0), a.length + b.length, W.heap.size, [], rfl, World.ownsRow_nil _ _ _ _, RowIs.new W 95 [.int .i64 0, .int .i64 0], Nat.le_refl _, (New.refl W).alloc _, ⟨Nat.zero_le _, Nat.zero_le _⟩, Nat.le_refl _, by simp [leftL], rfl⟩
  case round =>
    obtain ⟨⟨i, k⟩, n, gp, pre, rfl, hsts, hpl, hgp, hnw, hin, hle, hfu, hpre⟩ := hrel
    obtain ⟨PA, PC, rfl⟩ := owns_form hsts
    have H := Lib.hid (And.intro hsts (And.intro hin (And.intro hle (And.intro hfu hpre))))
    clear hsts hin hle hfu hpre
    have HPL := Lib.hid hpl
    have HNW := Lib.hid hnw
    have q0 := hpl.cell (i := 0) rfl
    have q1 := hpl.cell (i := 1) rfl
    clear hpl hnw
    have HE := Lib.hid (HR7.out.len.keep HNW.out)
    have q2 := HE.out.cell (i := 0) rfl
    have q3 := HE.out.cell (i := 1) rfl
    by_cases he : i = a.length ∧ k = b.length
    · obtain ⟨rfl, rfl⟩ := he
      go_wp2_with fail
      go_ret2
      obtain ⟨hsts, hin, hle, hfu, hpre⟩ := H.out
      rw [alG_end, List.append_nil] at hpre
      rw [← hpre]
      exact ⟨_, rfl, owns_base hsts HN7.out.size, HN7.out.trans HNW.out⟩
    · have hsp : (¬ ((i : Int) = (a.length : Int))) ∨ (wr.cell? ⟨w3.heap.size, 0, none⟩ = some (.int .i64 i) ∧ ¬ ((k : Int) = (b.length : Int))) := by
        by_cases hi : i = a.length
        · right
          refine ⟨by rw [q2, hi], fun h => he ⟨hi, by omega⟩⟩
        · left; omega
      have x0 := (HB7.out.keep HNW.out).cell (i := 0) rfl
      have x1 := (HB7.out.keep HNW.out).cell (i := 1) rfl
      have x2 := (HB7.out.keep HNW.out).cell (i := 2) rfl
      have HST : Hid (Calls Tryz.prog 69 #[.agg #[.iface tm (.agg #[]), .slice (some ⟨g1, 0, none⟩) a.length a.length, .slice (some ⟨g2, 0, none⟩) b.length b.length], .agg #[.int .i64 i, .int .i64 k]] wr fun e w' => ∃ v', e = .returned v' ∧ (StsAt w' wr.heap.size v' (stpsL (mdC F m) a b (i, k)) ∧ New wr w')) :=
        Lib.hid (cp_steps F m a b _ (i, k) wr (HT7.out.keep HNW.out) (HX7.out.keep HNW.out) H.out.2.1)
      have HEQ := Lib.hid he
      clear he q3
      rcases hsp with hsp | ⟨hq, hsp⟩
      all_goals try clear q2
      all_goals have q3 := HE.out.cell (i := 1) rfl
      all_goals
        first
          | (have q2 := hq; clear hq)
          | have q2 := HE.out.cell (i := 0) rfl
        go_wp2_with fail
        clear hsp q2 q3 x0 x1 x2
        refine HST.out.mono ?_
        rintro e W1 ⟨sv, rfl, sts, n1⟩
        clear HST
        obtain ⟨hsts0, hin0, -⟩ := H.out
        obtain ⟨t0, hf0⟩ := fit_some (c := mdC F m) hin0 (fun h => HEQ.out (by simpa using h))
        have HF0 := Lib.hid hf0
        have hL3 := stpsL_len (c := mdC F m) (s := a) (h := b) (i, k)
        have hL0 : 0 < (stpsL (mdC F m) a b (i, k)).length := List.length_pos_of_mem (List.mem_of_find?_eq_some hf0)
        clear hf0
        obtain ⟨sg, sc, rfl, sg1, sg2, sg3, -⟩ := sts.cells (List.getElem?_eq_getElem hL0)
        have HSTS := Lib.hid sts
        have HMEM : Hid (∀ t ∈ stpsL (mdC F m) a b (i, k), InL a b (aftL (i, k) t) ∧ leftL a b (aftL (i, k) t) < leftL a b (i, k) ∧ t.2.2 ≤ 10) := Lib.hid (fun t ht => ⟨(stps_in ht hin0).1, (stps_in ht hin0).2, stps_cost HK.out.1 HK.out.2 ht⟩)
        clear sts hsts0
        generalize hL : stpsL (mdC F m) a b (i, k) = L at *
        have HLL := Lib.hid hL
        clear hL
        have HN1 := Lib.hid n1
        clear n1
        unfold maxLen at sg3
        go_wp2_with fail
        go_loopg [41, 13] L.length (fun gk s41 s13 wx => ∃ j : Nat, s41 = .int .i64 j ∧ j ≤ L.length ∧ L.length - j ≤ gk ∧ s13 = .slice PA pre.length PC ∧ New W1 wx ∧ (∀ x t, x < j → L[x]? = some t → fitL (mdC F m) a b (i, k) t = false))
        case atStart => exact ⟨0, rfl, by omega, by omega, rfl, New.refl _, fun x t h => by omega⟩
        case round =>
          obtain ⟨j, rfl, hj, hg, rfl, n2, hno⟩ := hrel
          have HN2 := Lib.hid n2
          have HNO := Lib.hid hno
          clear n2 hno
          by_cases hlt : j < L.length
          · have HLJ := Lib.hid (List.getElem?_eq_getElem hlt)
            have HMJ := Lib.hid (HMEM.out _ (List.getElem_mem hlt))
            have hst := (HSTS.out.keep HN2.out).cells HLJ.out
            generalize L[j] = t at *
            obtain ⟨g', c', hgc, -, -, -, y0, y1, y2⟩ := hst
            obtain ⟨rfl, rfl⟩ : g' = sg ∧ c' = sc := by
              simp only [Value.slice.injEq, Option.some.injEq, Addr.mk.injEq] at hgc
              exact ⟨hgc.1.1.symm, hgc.2.2.symm⟩
            clear hgc
            obtain ⟨S, H0, C⟩ := t
            simp only at y0 y1 y2
            have i1 : (j : Int) < (L.length : Int) := by omega
            have i2 : (0 : Int) ≤ (j : Int) := by omega
            have HRS : Hid (RowIs (wr.alloc (.cells #[.int .i64 S, .int .i64 H0, .int .i64 C] 65)) wr.heap.size 65 [.int .i64 S, .int .i64 H0, .int .i64 C]) := Lib.hid (RowIs.new wr _ _)
            have HNB : Hid (New wr (wr.alloc (.cells #[.int .i64 S, .int .i64 H0, .int .i64 C] 65))) := Lib.hid ((New.refl wr).alloc _)
            go_wp2_with fail
            generalize hWB : wr.alloc (.cells #[.int .i64 S, .int .i64 H0, .int .i64 C] 65) = Wb at *
            clear hWB y0 y1 y2
            have HNA := Lib.hid (HN1.out.trans (HN2.out.trans HNB.out))
            have HNN := Lib.hid (HNW.out.trans HNA.out)
            have HDB : Hid (∀ w', New Wb w' → New Wb w' ∧ w'.cell? ⟨wr.heap.size, 0, none⟩ = some (.int .i64 S) ∧ w'.cell? ⟨wr.heap.size, 1, none⟩ = some (.int .i64 H0) ∧ w'.cell? ⟨wr.heap.size, 2, none⟩ = some (.int .i64 C) ∧ w'.cell? ⟨gp, 0, none⟩ = some (.int .i64 i) ∧ w'.cell? ⟨gp, 1, none⟩ = some (.int .i64 k)) :=
              Lib.hid (fun w' hn => ⟨hn, (HRS.out.keep hn).cell rfl, (HRS.out.keep hn).cell rfl, (HRS.out.keep hn).cell rfl, ((HPL.out.keep HNA.out).keep hn).cell rfl, ((HPL.out.keep HNA.out).keep hn).cell rfl⟩)
            obtain ⟨-, z0, z1, z2, z3, z4⟩ := HDB.out Wb (New.refl Wb)
            have HFT : Hid (fitL (mdC F m) a b (i, k) (S, H0, C) = (C + rstL (mdC F m) a b (aftL (i, k) (S, H0, C)) == rstL (mdC F m) a b (i, k))) := Lib.hid rfl
            have ik : i ≤ 64 ∧ k ≤ 64 := by have := H.out.2.1; obtain ⟨l1, l2⟩ := this; simp only at l1 l2; omega
            have HAF : Hid (∀ w', Calls Tryz.prog 70 #[.agg #[.int .i64 i, .int .i64 k], .agg #[.int .i64 S, .int .i64 H0, .int .i64 C]] w' fun e w'' => e = .returned (plV (aftL (i, k) (S, H0, C))) ∧ New w' w'') :=
              Lib.hid (fun w' => cp_after (i, k) (S, H0, C) w' (by show i ≤ _; omega) (by show k ≤ _; omega))
            have HR0 : Hid (∀ (x y : Nat) w', InL a b (x, y) → New Wb w' → Calls Tryz.prog 68 #[.agg #[.int .i64 x, .int .i64 y], .pointer (some ⟨w6.heap.size, 0, none⟩), .pointer (some ⟨w3.heap.size, 0, none⟩)] w' fun e w'' => e = .returned (.int .i64 (rstL (mdC F m) a b (x, y) : Nat)) ∧ New w' w'') :=
              Lib.hid (fun x y w' hp hn => cp_rest (mdC F m) a b w5.heap.size w6.heap.size w3.heap.size (x, y) w' (HR7.out.keep (HNN.out.trans hn)) hp la lb)
            have HRL : Hid (∀ p, rstL (mdC F m) a b p ≤ 1000) := Lib.hid (fun p => lc_small (by simp; omega) (by simp; omega))
            have hin1 := H.out.2.1
            have hin2 := HMJ.out.1
            have b0 := HRL.out (i, k)
            have b1 := HRL.out (aftL (i, k) (S, H0, C))
            have hC : C ≤ 10 := HMJ.out.2.2
            generalize hq : aftL (i, k) (S, H0, C) = q at *
            obtain ⟨qi, qk⟩ := q
            generalize hr0 : rstL (mdC F m) a b (i, k) = r0 at *
            generalize hr1 : rstL (mdC F m) a b (qi, qk) = r1 at *
            unfold plV at HAF
            have HQ := Lib.hid (And.intro hq (And.intro hr0 hr1))
            clear hq hr0 hr1
            have i3 : IntKind.i64.wrap ((C : Int) + (r1 : Int)) = (C : Int) + (r1 : Int) := IntWalk.i64_in _ (by omega)
            go_region_held3 (fun w' => New Wb w' ∧ w'.cell? ⟨wr.heap.size, 0, none⟩ = some (.int .i64 S) ∧ w'.cell? ⟨wr.heap.size, 1, none⟩ = some (.int .i64 H0) ∧ w'.cell? ⟨wr.heap.size, 2, none⟩ = some (.int .i64 C) ∧ w'.cell? ⟨gp, 0, none⟩ = some (.int .i64 i) ∧ w'.cell? ⟨gp, 1, none⟩ = some (.int .i64 k))
              (first | exact HDB.out _ (New.refl _).drew | exact HDB.out _ (New.trans (by first | assumption | exact (by assumption : New _ _ ∧ _).1) (by assumption)))
              (first | (go_at_call 70; refine (HAF.out _).mono ?_; rintro e w' ⟨rfl, hb⟩) | (go_at_call 68; refine (HR0.out _ _ _ (by first | exact hin1 | exact hin2) (by first | assumption | exact (New.refl _).drew | exact (by assumption : New _ _ ∧ _).1)).mono ?_; rintro e w' ⟨rfl, hb⟩; first | rw [HQ.out.2.2] | rw [HQ.out.2.1]))
            have hn3 : New Wb w' := (by assumption : New Wb w' ∧ _).1
            have HN3 := Lib.hid hn3
            clear hn3
            by_cases hfit : C + r1 = r0
            · have hfI : (C : Int) + (r1 : Int) = (r0 : Int) := by omega
              obtain ⟨hstO, hinO, hleO, hfuO, hpreO⟩ := H.out
              have hst3 := ((hstO.keep HNA.out).keep HN3.out)
              have hpn : pre.length ≤ 128 := by
                have h1 := congrArg List.length hpreO
                rw [List.length_append] at h1
                have h2 := alL_len (c := mdC F m) (s := a) (h := b)
                omega
              obtain ⟨i0, hi0, hz0, hz1, hz2⟩ := info_parts info_step
              have HI := Lib.hid (And.intro hi0 (And.intro hz0 (And.intro hz1 hz2)))
              clear hi0 hz0 hz1 hz2
              have HPB := Lib.hid hst3
              have hWs : W.heap.size ≤ w'.heap.size := Nat.le_trans HNN.out.size HN3.out.size
              have zz := HDB.out _ HN3.out
              obtain ⟨-, z0, z1, z2, z3, z4⟩ := zz
              have hbig : pre.length + 1 ≤ maxLen := by unfold maxLen; omega
              clear hstO hinO hleO hfuO hpreO hst3
              go_wp2_with (at_builtin; go_loud (refine wpList_append_lies _ rfl (.tmp 57) (.tmp 59) 24 rfl W.heap.size 65 i0 (.agg #[.int .i64 0, .int .i64 0, .int .i64 0]) 3 24 under_steps HI.out.1 HI.out.2.1 HI.out.2.2.1 HI.out.2.2.2 rfl (by decide) (.slice PA pre.length PC) pre.length (stsC pre) rfl (owns_keep HPB.out ((New.refl w').alloc _)) ⟨w'.heap.size, 0, none⟩ 1 1 (stC (S, H0, C)) rfl rfl ?c1 ?c2 (by decide) ?c3 ?c4 ?c5 _ rfl ?_))
              case c1 => exact World.news_of_block (heap_alloc_new _ _)
              case c2 => simp [stC, Value.oneCell']
              case c3 => exact hbig
              case c4 => omega
              case c5 => simp; omega
              intro g cap w4 ho hg _ _
              have ka : New w' (w'.alloc (.cells #[.int .i64 S, .int .i64 H0, .int .i64 C] 65)) := (New.refl w').alloc _
              have hp4 : RowIs w4 gp 95 [.int .i64 i, .int .i64 k] := ((HPL.out.keep HNA.out).keep (HN3.out.trans ka)).grown (HPB.out.keep ka) hg
              have hs4' : RowIs w4 wr.heap.size 65 [.int .i64 S, .int .i64 H0, .int .i64 C] := by
                refine (hg.block wr.heap.size ?_ ?_).trans (((HRS.out.keep HN3.out).keep ka))
                · exact ((HRS.out.keep HN3.out).keep ka).lt
                · intro e
                  have l1 := (H.out.1.lt wr.heap.size e.symm).2
                  have l2 := (HN1.out.trans HN2.out).size
                  omega
              have hn4 : New W w4 := Below.trans (HNN.out.trans (HN3.out.trans ka)) (grown_below (HPB.out.keep ka) hg (Nat.le_trans hWs ka.size))
              have hst4 : StsAt w4 W.heap.size (.slice (some ⟨g, 0, none⟩) (pre.length + 1) cap) (pre ++ [(S, H0, C)]) := by
                unfold StsAt
                rw [stsC_append, List.length_append, List.length_singleton, show stsC [(S, H0, C)] = stC (S, H0, C) by simp [stsC], hs7]
                exact ho
              have HP4 := Lib.hid hp4
              have HN4 := Lib.hid hn4
              have HST4 := Lib.hid hst4
              have u0 := hp4.cell (i := 0) rfl
              have u1 := hp4.cell (i := 1) rfl
              have u2 := hs4'.cell (i := 0) rfl
              have u3 := hs4'.cell (i := 1) rfl
              have u4 := hs4'.cell (i := 2) rfl
              clear hp4 hn4 hst4 hs4' ho hg ka z0 z1 z2 z3 z4 HPB
              go_wp2_with fail
              refine (HAF.out _).mono ?_
              rintro e w5' ⟨rfl, n5⟩
              have p5 := HP4.out.keep n5
              have v0 := p5.cell (i := 0) rfl
              have v1 := p5.cell (i := 1) rfl
              have f0 := p5.free 0
              have f1 := p5.free 1
              have P6 := Lib.hid (p5.put2 (.int .i64 qi) (.int .i64 qk))
              have y0 := P6.out.cell (i := 0) rfl
              have y1 := P6.out.cell (i := 1) rfl
              have S5 := Lib.hid ((((HST4.out.keep n5).put p5 0 (.int .i64 qi)).put (p5.put 0 _) 1 (.int .i64 qk)))
              have HN5 := Lib.hid (HN4.out.trans n5)
              clear u0 u1 u2 u3 u4 n5 p5
              go_wp2_with fail
              obtain ⟨-, hinO, hleO, hfuO, hpreO⟩ := H.out
              have hlt2 := HMJ.out.2.1
              have hw6 := (HN5.out.setCell (p := ⟨gp, 0, none⟩) hgp (.int .i64 qi)).setCell (p := ⟨gp, 1, none⟩) hgp (.int .i64 qk)
              go_roundg (leftL a b (qi, qk))
              case measure => omega
              case rel =>
                obtain ⟨n', rfl⟩ : ∃ n', n = n' + 1 := ⟨n - 1, by omega⟩
                have hfd : (stpsL (mdC F m) a b (i, k)).find? (fitL (mdC F m) a b (i, k)) = some (S, H0, C) := by
                  rw [HLL.out, ← HLJ.out, List.getElem?_eq_getElem hlt]
                  refine find_at hlt (fun x y hx hy => HNO.out x y hx hy) ?_
                  have e1 := HLJ.out
                  rw [List.getElem?_eq_getElem hlt] at e1
                  rw [Option.some.inj e1, HFT.out, beq_iff_eq]
                  exact hfit
                refine ⟨(qi, qk), n', _, pre ++ [(S, H0, C)], rfl, ?_, ?_, HN5.out.size, hw6.alloc _, HMJ.out.1, Nat.le_refl _, by omega, ?_⟩
                · have := StsAt.keep S5.out ((New.refl _).alloc (.cells #[.int .i64 qi, .int .i64 qk] 95))
                  exact this
                · have h := RowIs.new ((w5'.setCell ⟨gp, 0, none⟩ (.int .i64 qi)).setCell ⟨gp, 1, none⟩ (.int .i64 qk)) 95 [.int .i64 qi, .int .i64 qk]
                  have hz : ((w5'.setCell ⟨gp, 0, none⟩ (.int .i64 qi)).setCell ⟨gp, 1, none⟩ (.int .i64 qk)).heap.size = w5'.heap.size := by simp
                  rw [hz] at h
                  exact h
                · rw [← hpreO, alG, hfd, List.append_assoc]
                  show pre ++ ((S, H0, C) :: alG (mdC F m) a b n' (qi, qk)) = pre ++ ((S, H0, C) :: alG (mdC F m) a b n' (aftL (i, k) (S, H0, C)))
                  rw [HQ.out.1]
            · have hfI : ¬ ((C : Int) + (r1 : Int) = (r0 : Int)) := by omega
              go_wp2_with fail
              go_roundg (gk - 1)
              case measure => omega
              case rel =>
                refine ⟨j + 1, by go_num, by omega, by omega, rfl, HN2.out.trans (HNB.out.trans HN3.out), fun x t hx hl => ?_⟩
                rcases Nat.lt_succ_iff_lt_or_eq.1 hx with hx | rfl
                · exact HNO.out x t hx hl
                · obtain rfl : t = (S, H0, C) := by rw [HLJ.out] at hl; exact (Option.some.inj hl).symm
                  rw [HFT.out, beq_eq_false_iff_ne]
                  exact hfit
          · obtain ⟨e1⟩ : Nonempty (j = L.length) := ⟨by omega⟩
            have hf := HF0.out
            obtain ⟨x, hx, ex⟩ := List.getElem_of_mem (List.mem_of_find?_eq_some hf)
            have h1 := HNO.out x t0 (by omega) (by rw [List.getElem?_eq_getElem hx, ex])
            have h2 := List.find?_some hf
            rw [h1] at h2
            cases h2
set_option maxHeartbeats 400000 in
theorem cp_Align_err (mode E : Int) (s h : Bytes) (w : World) (hE : (E != 0) = true) (hc : Calls Tryz.prog 61 #[.int .i64 mode, .string (B s), .string (B h)] w fun e w' => e = .returned (.tuple #[noHear, .int .i64 E]) ∧ New w w') :
    Calls Tryz.prog 26 #[.int .i64 mode, .string (B s), .string (B h)] w fun e w' => e = .returned (.tuple #[.slice none 0 0, .int .i64 E]) ∧ New w w' := by
  have HC := Lib.hid hc
  clear hc
  unfold noHear at HC
  go_enter Tryz.func26, Tryz.ntmps26
  go_wp2_with fail
  refine HC.out.mono ?_
  rintro e w' ⟨rfl, h1⟩
  go_wp2_with fail
  go_ret2
  exact ⟨rfl, h1.alloc _⟩
/-- The alignment, or none with an error. -/
def alC (F : List Bytes) (mode : Int) (s h : Bytes) : List Stp :=
  if hearE mode s h = 0 then match mdOf mode, keysOf s, keysOf h with
    | some m, some a, some b => alL (mdC F m) a b
    | _, _, _ => []
  else []
theorem cp_Align (F : List Bytes) (mode : Int) (s h : Bytes) (w : World) (hT : TabAt w F) (hs : s.length ≤ 1000000) (hh : h.length ≤ 1000000) :
    Calls Tryz.prog 26 #[.int .i64 mode, .string (B s), .string (B h)] w fun e w' => ∃ v, e = .returned (.tuple #[v, .int .i64 (hearE mode s h)]) ∧ (StsAt w' w.heap.size v (alC F mode s h) ∧ New w w') := by
  by_cases he : hearE mode s h = 0
  · obtain ⟨m, a, b, hm, ha, hb, ls, lh⟩ := hearE_ok he
    have h1 := cp_Align_ok F m mode s h w hT hm ha hb ls lh
    rw [alC, if_pos he, hm, ha, hb, he]
    exact h1
  · have h1 := cp_Align_err mode (hearE mode s h) s h w (by rw [bne_iff_ne]; exact he) (cp_newHearing_no mode s h w hs hh he)
    rw [alC, if_neg he]
    exact h1.mono fun e w' ⟨h2, h3⟩ => ⟨_, h2, World.ownsRow_nil _ _ _ _, h3⟩
end Go.Proofs.YthodoabppkeidaaGreatDoor
