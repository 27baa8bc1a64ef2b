/-
  Rise, Rising, CheckRise of the specification, and same of the laws. Condition: the numbers lie in memory.
-/
import Derived.Test.YthodoabppkeidaaDoorCpRefC
import Derived.Test.YthodoabppkeidaaDoorCpCheck
import Derived.Test.YthodoabppkeidaaDoorCpAsk
namespace Go.Proofs.YthodoabppkeidaaDoor
open Go Go.RowKit
theorem keptI_pair {l : List Int} (hl : l.length ≤ 1000) : (keptI l).Pairwise fun x y => x < y := by
  rw [keptI, List.pairwise_map]
  refine ((kept_is hl).pair.imp_of_mem (S := fun x y => x - 1 < y - 1) fun {x y} hx hy h => ?_)
  have h1 := ((kept_is hl).mem x hx).1
  have h2 := h.1
  omega
/-- Which of the kept places lie ahead of an index. -/
structure KAt (l : List Int) (i a : Nat) : Prop where
  le : a ≤ (keptI l).length
  lo : ∀ x ∈ (keptI l).take a, x < i
  hi : ∀ x ∈ (keptI l).drop a, i ≤ x
theorem KAt.start (l : List Int) : KAt l 0 0 := ⟨Nat.zero_le _, fun x hx => by simp at hx, fun x _ => Nat.zero_le x⟩
theorem KAt.take {l : List Int} (hl : l.length ≤ 1000) {i a : Nat} (h : KAt l i a) (ha : a < (keptI l).length) (he : (keptI l)[a] = i) : KAt l (i + 1) (a + 1) ∧ i ∈ keptI l := by
  have hd : (keptI l).drop a = (keptI l)[a] :: (keptI l).drop (a + 1) := List.drop_eq_getElem_cons ha
  have ht : (keptI l).take (a + 1) = (keptI l).take a ++ [(keptI l)[a]] := List.take_succ_eq_append_getElem ha
  have hp : ((keptI l).drop a).Pairwise fun x y => x < y := (keptI_pair hl).sublist (List.drop_sublist _ _)
  rw [hd, List.pairwise_cons] at hp
  refine ⟨⟨ha, fun x hx => ?_, fun x hx => ?_⟩, he ▸ List.getElem_mem ha⟩
  · rw [ht, List.mem_append, List.mem_singleton] at hx
    rcases hx with hx | hx
    · have := h.lo x hx; omega
    · omega
  · have := hp.1 x hx
    omega
theorem KAt.skip {l : List Int} (hl : l.length ≤ 1000) {i a : Nat} (h : KAt l i a) (hn : ∀ ha : a < (keptI l).length, (keptI l)[a] ≠ i) : KAt l (i + 1) a ∧ i ∉ keptI l := by
  have hd : ∀ x ∈ (keptI l).drop a, i + 1 ≤ x := fun x hx => by
    by_cases ha : a < (keptI l).length
    · have hd : (keptI l).drop a = (keptI l)[a] :: (keptI l).drop (a + 1) := List.drop_eq_getElem_cons ha
      have hp : ((keptI l).drop a).Pairwise fun x y => x < y := (keptI_pair hl).sublist (List.drop_sublist _ _)
      have h1 := h.hi (keptI l)[a] (by rw [hd]; exact List.mem_cons_self ..)
      have h2 := hn ha
      rw [hd, List.pairwise_cons] at hp
      rw [hd] at hx
      rcases List.mem_cons.1 hx with rfl | hx
      · omega
      · have := hp.1 x hx; omega
    · rw [List.drop_eq_nil_of_le (by omega)] at hx
      cases hx
  refine ⟨⟨h.le, fun x hx => by have := h.lo x hx; omega, hd⟩, fun hm => ?_⟩
  rw [← List.take_append_drop a (keptI l), List.mem_append] at hm
  rcases hm with hm | hm
  · have := h.lo i hm; omega
  · have := hd i hm; omega
theorem rz_take {l : List Int} (hl : l.length ≤ 1000) {i : Nat} (hi : i < l.length) (h : i ∈ keptI l) : rzA l (i + 1) = l[i] := by
  obtain ⟨_, _, h3, h4⟩ := kept_mem hl ((keptI_mem hl).1 h)
  rw [rzA, if_neg h4, h3, List.getD_eq_getElem?_getD, List.getElem?_eq_getElem hi]
  rfl
theorem rz_skip {l : List Int} (hl : l.length ≤ 1000) {i : Nat} (h : i ∉ keptI l) : rzA l (i + 1) = rzA l i + 1 := by
  rw [rzA, if_pos ((stay_zero hl).2 fun h2 => h ((keptI_mem hl).2 h2))]
theorem rise_take {l : List Int} {i : Nat} (hi : i < l.length) : intsV ((riseL l).take (i + 1)) = intsV ((riseL l).take i) ++ [.int .i64 (rzA l (i + 1))] := by
  have h1 : i < (riseL l).length := by rw [riseL_len]; exact hi
  have h2 := riseL_at l hi
  rw [List.getElem?_eq_getElem h1] at h2
  rw [List.take_succ_eq_append_getElem h1, Option.some.inj h2, intsV, List.map_append]
  rfl
set_option maxRecDepth 100000 in
set_option maxHeartbeats 4000000 in
theorem ref_Rise (l : List Int) (v : Value) (w : World) (hv : IntsAt w v l) (hl : l.length ≤ 1000000) : Calls Tryd.prog 15 #[v] w fun e w' =>
    ∃ v', e = .returned (.tuple #[v', .int .i64 (serE l)]) ∧ (w'.ownsRow w.heap.size 3 1 v' (riseC l).length (intsV (riseC l)) ∧ New w w') := by
  have HS := Lib.hid (ref_Chain l v w hv hl)
  have HV := Lib.hid hv
  obtain ⟨A, c, rfl, b1, b2⟩ := hv.form
  clear hv
  by_cases he : serE l = 0
  · obtain ⟨h1, h2⟩ := serE_ok he
    have e1 : riseC l = riseL l := if_pos he
    have e2 : keptC l = keptI l := if_pos he
    rw [e1]
    rw [he, e2] at HS
    rw [he]
    clear he e1 e2 h2
    have hkl := keptI_le (l := l) (by omega)
    go_enter Tryd.func15, Tryd.ntmps15
    go_wp2_with fail
    refine HS.out.mono ?_
    rintro e W2 ⟨kv, rfl, ho, hn⟩
    obtain ⟨KA, KC, rfl⟩ := owns_form ho
    have HO := Lib.hid ho
    have HN2 := Lib.hid hn
    clear ho hn HS
    go_wp2_with fail
    obtain ⟨i0, hi0, hz0, hz1, hz2⟩ := info_parts info_int
    have HI := Lib.hid (And.intro hi0 (And.intro hz0 (And.intro hz1 hz2)))
    clear hi0 hz0 hz1 hz2
    go_loopw [9, 8, 7, 6] (fun s9 s8 s7 s6 wx => ∃ (i a : Nat), i ≤ l.length ∧ s9 = .int .i64 i ∧ s8 = .int .i64 (rzA l i) ∧ s7 = .int .i64 a ∧ KAt l i a ∧ wx.ownsRow W2.heap.size 3 1 s6 i (intsV ((riseL l).take i)) ∧ New W2 wx) (fun i _ _ _ _ => l.length - (intOf i).toNat)
    case atStart => exact ⟨0, 0, by omega, rfl, rfl, rfl, KAt.start l, World.ownsRow_nil _ _ _ _, New.refl _⟩
    case round =>
      obtain ⟨i, a, hi, rfl, rfl, rfl, hka, hown, hn⟩ := hrel
      obtain ⟨PA, PC, rfl⟩ := owns_form hown
      have HKA := Lib.hid hka
      have HOW := Lib.hid hown
      have HNW := Lib.hid hn
      clear hn hka
      have hsx := HNW.out.size
      by_cases hlt : i < l.length
      · have hr1 := rz_range (l := l) (by omega) i hi
        have i1 : IntKind.i64.wrap (rzA l i + 1) = rzA l i + 1 := IntWalk.i64_in _ (by omega)
        have i2 : (i : Int) < (l.length : Int) := by omega
        have HRT := Lib.hid (rise_take hlt)
        clear hown
        by_cases ha : a < (keptI l).length
        · obtain ⟨kb, ko, rfl, kl, kc⟩ := own_at (owns_keep HO.out HNW.out) (natsV_len _) (by omega)
          have x3 : wr.cell? ⟨kb, ko + a, none⟩ = some (.int .i64 ((keptI l)[a] : Nat)) := by
            refine kc _ _ ?_
            rw [natsV, List.getElem?_map, List.getElem?_eq_getElem ha]
            rfl
          have i3 : (a : Int) < ((keptI l).length : Int) := by omega
          clear kc
          by_cases hq : (keptI l)[a] = i
          · obtain ⟨t1, t2⟩ := HKA.out.take (by omega) ha hq
            have HT := Lib.hid t1
            have HRZ := Lib.hid (rz_take (by omega) hlt t2)
            obtain ⟨lb, lo, rfl, llt, lc⟩ := ints_low HV.out (by omega)
            have x1 : wr.cell? ⟨lb, lo + i, none⟩ = some (.int .i64 l[i]) := ((HN2.out.trans HNW.out).cell (p := ⟨lb, lo + i, none⟩) llt).trans (lc i hlt)
            rw [hq] at x3
            have e0 : ((i : Int) == (i : Int)) = true := by simp
            clear lc t1 t2 hq
            rw [HRZ.out] at HRT
            generalize l[i] = z at *
            go_wp2_with (at_builtin; go_loud (refine wpList_append_lies _ rfl (.tmp 44) (.tmp 46) 25 rfl W2.heap.size 3 i0 (.int .i64 0) 1 8 Tryd.underlying25 HI.out.1 HI.out.2.1 HI.out.2.2.1 HI.out.2.2.2 rfl (by decide) (.slice PA i PC) i (intsV ((riseL l).take i)) rfl (owns_keep HOW.out ((New.refl wr).alloc _)) ⟨wr.heap.size, 0, none⟩ 1 1 [.int .i64 z] rfl rfl ?c1 ?c2 (by decide) ?c3 ?c4 ?c5 _ rfl ?_))
            try case c1 => exact World.news_of_block (heap_alloc_new _ _)
            case c2 => simp [Value.oneCell']
            case c3 => unfold maxLen; omega
            case c4 => omega
            case c5 => first | omega | (simp; omega)
            intro g cap w4 ho hg _ _
            have HO4 := Lib.hid ho
            have HN4 := Lib.hid (Below.trans (HNW.out.trans ((New.refl wr).alloc _)) (grown_below (owns_keep HOW.out ((New.refl wr).alloc _)) hg (Nat.le_trans hsx ((New.refl wr).alloc _).size)))
            clear ho hg
            go_wp2_with fail
            refine ⟨⟨i + 1, a + 1, by omega, by go_num, by rw [HRZ.out], by go_num, HT.out, ?_, HN4.out⟩, by simp [intOf] <;> omega⟩
            rw [HRT.out]
            exact HO4.out
          · obtain ⟨t1, t2⟩ := HKA.out.skip (by omega) (fun _ => hq)
            have HT := Lib.hid t1
            have HRZ := Lib.hid (rz_skip (l := l) (by omega) t2)
            have e0 : (((keptI l)[a] : Nat) : Int) ≠ (i : Int) := by omega
            have e1 : ((((keptI l)[a] : Nat) : Int) == (i : Int)) = false := by rw [beq_eq_false_iff_ne]; exact e0
            clear t1 t2 hq
            rw [HRZ.out] at HRT
            generalize (keptI l)[a] = q at *
            generalize hy0 : rzA l i = y at *
            clear hy0
            go_wp2_with (at_builtin; go_loud (refine wpList_append_lies _ rfl (.tmp 44) (.tmp 46) 25 rfl W2.heap.size 3 i0 (.int .i64 0) 1 8 Tryd.underlying25 HI.out.1 HI.out.2.1 HI.out.2.2.1 HI.out.2.2.2 rfl (by decide) (.slice PA i PC) i (intsV ((riseL l).take i)) rfl (owns_keep HOW.out ((New.refl wr).alloc _)) ⟨wr.heap.size, 0, none⟩ 1 1 [.int .i64 (y + 1)] rfl rfl ?c1 ?c2 (by decide) ?c3 ?c4 ?c5 _ rfl ?_))
            try case c1 => exact World.news_of_block (heap_alloc_new _ _)
            case c2 => simp [Value.oneCell']
            case c3 => unfold maxLen; omega
            case c4 => omega
            case c5 => first | omega | (simp; omega)
            intro g cap w4 ho hg _ _
            have HO4 := Lib.hid ho
            have HN4 := Lib.hid (Below.trans (HNW.out.trans ((New.refl wr).alloc _)) (grown_below (owns_keep HOW.out ((New.refl wr).alloc _)) hg (Nat.le_trans hsx ((New.refl wr).alloc _).size)))
            clear ho hg
            go_wp2_with fail
            refine ⟨⟨i + 1, a, by omega, by go_num, by rw [HRZ.out], by go_num, HT.out, ?_, HN4.out⟩, by simp [intOf] <;> omega⟩
            rw [HRT.out]
            exact HO4.out
        · obtain ⟨t1, t2⟩ := HKA.out.skip (by omega) (fun h => absurd h ha)
          have HT := Lib.hid t1
          have HRZ := Lib.hid (rz_skip (l := l) (by omega) t2)
          have i3 : ¬ ((a : Int) < ((keptI l).length : Int)) := by omega
          clear t1 t2
          rw [HRZ.out] at HRT
          generalize hy0 : rzA l i = y at *
          clear hy0
          go_wp2_with (at_builtin; go_loud (refine wpList_append_lies _ rfl (.tmp 44) (.tmp 46) 25 rfl W2.heap.size 3 i0 (.int .i64 0) 1 8 Tryd.underlying25 HI.out.1 HI.out.2.1 HI.out.2.2.1 HI.out.2.2.2 rfl (by decide) (.slice PA i PC) i (intsV ((riseL l).take i)) rfl (owns_keep HOW.out ((New.refl wr).alloc _)) ⟨wr.heap.size, 0, none⟩ 1 1 [.int .i64 (y + 1)] rfl rfl ?c1 ?c2 (by decide) ?c3 ?c4 ?c5 _ rfl ?_))
          try case c1 => exact World.news_of_block (heap_alloc_new _ _)
          case c2 => simp [Value.oneCell']
          case c3 => unfold maxLen; omega
          case c4 => omega
          case c5 => first | omega | (simp; omega)
          intro g cap w4 ho hg _ _
          have HO4 := Lib.hid ho
          have HN4 := Lib.hid (Below.trans (HNW.out.trans ((New.refl wr).alloc _)) (grown_below (owns_keep HOW.out ((New.refl wr).alloc _)) hg (Nat.le_trans hsx ((New.refl wr).alloc _).size)))
          clear ho hg
          go_wp2_with fail
          refine ⟨⟨i + 1, a, by omega, by go_num, by rw [HRZ.out], by go_num, HT.out, ?_, HN4.out⟩, by simp [intOf] <;> omega⟩
          rw [HRT.out]
          exact HO4.out
      · obtain rfl : i = l.length := by omega
        have hd : (riseL l).take l.length = riseL l := by rw [← riseL_len l, List.take_length]
        rw [hd] at HOW
        clear hown
        go_wp2_with fail
        go_ret2
        exact ⟨_, rfl, by rw [riseL_len]; exact owns_base HOW.out HN2.out.size, HN2.out.trans HNW.out⟩
  · have e1 : riseC l = [] := if_neg he
    have e2 : keptC l = [] := if_neg he
    rw [e1]
    rw [e2] at HS
    have hE : (serE l != 0) = true := by rw [bne_iff_ne]; exact he
    generalize serE l = E at *
    go_enter Tryd.func15, Tryd.ntmps15
    go_wp2_with fail
    refine HS.out.mono ?_
    rintro e W2 ⟨kv, rfl, ho, hn⟩
    obtain ⟨KA, KC, rfl⟩ := owns_form ho
    have HN2 := Lib.hid hn
    clear ho hn
    go_wp2_with fail
    go_ret2
    exact ⟨_, rfl, World.ownsRow_nil _ _ _ _, HN2.out⟩
set_option maxRecDepth 100000 in
set_option maxHeartbeats 2000000 in
theorem ref_RisingB (l : List Int) (v : Value) (w : World) (hv : IntsAt w v l) : Calls Tryd.prog 33 #[v] w fun e w' => e = .returned (.bool (rsgB 0 l)) ∧ New w w' := by
  have HV := Lib.hid hv
  obtain ⟨A, c, rfl, b1, b2⟩ := hv.form
  clear hv
  generalize hR : rsgB 0 l = RB
  have HRB := Lib.hid hR
  clear hR
  go_enter Tryd.func33, Tryd.ntmps33
  go_wp2_with fail
  go_loopw [3] (fun s3 wr => ∃ (j : Nat) (b : Int), j ≤ l.length ∧ s3 = .int .i64 j ∧ rsgB b (l.drop j) = RB ∧ 0 ≤ b ∧ (j = 0 → b = 0) ∧ (∀ (h0 : 0 < j) (h1 : j - 1 < l.length), l[j - 1] = b) ∧ New w wr) (fun i _ => l.length - (intOf i).toNat)
  case atStart => exact ⟨0, 0, by omega, rfl, HRB.out, by omega, fun _ => rfl, fun h0 => by omega, New.refl _⟩
  case round =>
    obtain ⟨j, b, hj, rfl, hg, hb, hb0, hb1, hn⟩ := hrel
    have HG := Lib.hid hg
    have HB1 := Lib.hid hb1
    have HN := Lib.hid hn
    clear hn hg hb1
    by_cases hlt : j < l.length
    · obtain ⟨gb, off, rfl, -, hc⟩ := ints_cell (HV.out.keep HN.out) (by omega)
      have x1 := hc j hlt
      have hdr : l.drop j = l[j] :: l.drop (j + 1) := List.drop_eq_getElem_cons hlt
      have HDR := Lib.hid hdr
      have i1 : (j : Int) < (l.length : Int) := by omega
      clear hdr
      by_cases hx : b + 1 ≤ l[j] ∧ l[j] ≤ 99999
      · have hg2 := HG.out
        rw [HDR.out, rsgB, decide_eq_true hx, Bool.true_and] at hg2
        have HG2 := Lib.hid hg2
        have HXX := Lib.hid hx
        have n1 : ¬ (l[j] < 1) := by omega
        have n2 : ¬ (99999 < l[j]) := by omega
        by_cases h0 : 0 < j
        · have hpr : j - 1 < l.length := by omega
          have x2 := hc (j - 1) hpr
          rw [HB1.out h0 hpr] at x2
          have n3 : ¬ (l[j] ≤ b) := by omega
          have i2 : IntKind.i64.wrap ((j : Int) - 1) = (j : Int) - 1 := IntWalk.i64_in _ (by omega)
          have i3 : ((j : Int) - 1).toNat = j - 1 := by omega
          have i4 : 0 ≤ (j : Int) - 1 := by omega
          have i5 : (j : Int) - 1 < (l.length : Int) := by omega
          have i6 : (0 : Int) < (j : Int) := by omega
          have k1 : (1 : Int) ≤ (j : Int) := by omega
          have k2 : (j : Int) ≤ (l.length : Int) := by omega
          have k3 : 1 ≤ j := by omega
          clear hc hx hg2 hb0
          generalize hxx : l[j] = x at *
          have HXE := Lib.hid hxx
          clear hxx
          go_upto_region 4 with fail
          go_quiet (fail)
          go_wp2_with fail
          refine ⟨⟨j + 1, x, by omega, by go_num, HG2.out, by have := HXX.out.1; omega, fun h => by omega, fun _ _ => HXE.out, HN.out.drewN _⟩, by simp [intOf] <;> omega⟩
        · obtain rfl : j = 0 := by omega
          rw [Nat.add_zero] at x1
          have i7 : (0 : Int) < (l.length : Int) := by omega
          clear hc hx hg2 hb0
          generalize hxx : l[0] = x at *
          have HXE := Lib.hid hxx
          clear hxx
          go_upto_region 4 with fail
          go_quiet (fail)
          go_wp2_with fail
          refine ⟨⟨1, x, by omega, by go_num, HG2.out, by have := HXX.out.1; omega, fun h => by omega, fun _ _ => HXE.out, HN.out.drewN _⟩, by simp [intOf] <;> omega⟩
      · have hg2 := HG.out
        rw [HDR.out, rsgB, decide_eq_false hx, Bool.false_and] at hg2
        subst hg2
        by_cases n1 : l[j] < 1
        · have d1 : decide (l[j] < 1) = true := decide_eq_true n1
          clear hc hx hb0
          generalize l[j] = x at *
          go_upto_region 4 with fail
          go_quiet (fail)
          go_wp2_with fail
          go_ret
          exact ⟨rfl, HN.out.drewN _⟩
        · have d1 : decide (l[j] < 1) = false := decide_eq_false n1
          by_cases n2 : 99999 < l[j]
          · have d2 : decide (99999 < l[j]) = true := decide_eq_true n2
            clear hc hx hb0
            generalize l[j] = x at *
            go_upto_region 4 with fail
            go_quiet (fail)
            go_wp2_with fail
            go_ret
            exact ⟨rfl, HN.out.drewN _⟩
          · have d2 : decide (99999 < l[j]) = false := decide_eq_false n2
            have h0 : 0 < j := by
              rcases Nat.eq_zero_or_pos j with h | h
              · have := hb0 h; omega
              · exact h
            have hpr : j - 1 < l.length := by omega
            have x2 := hc (j - 1) hpr
            rw [HB1.out h0 hpr] at x2
            have n3 : l[j] ≤ b := by omega
            have i2 : IntKind.i64.wrap ((j : Int) - 1) = (j : Int) - 1 := IntWalk.i64_in _ (by omega)
            have i3 : ((j : Int) - 1).toNat = j - 1 := by omega
            have i4 : 0 ≤ (j : Int) - 1 := by omega
            have i5 : (j : Int) - 1 < (l.length : Int) := by omega
            have i6 : (0 : Int) < (j : Int) := by omega
            have k1 : (1 : Int) ≤ (j : Int) := by omega
            have k2 : (j : Int) ≤ (l.length : Int) := by omega
            have k3 : 1 ≤ j := by omega
            clear hc hx hb0
            generalize l[j] = x at *
            go_upto_region 4 with fail
            go_quiet (fail)
            go_wp2_with fail
            go_ret
            exact ⟨rfl, HN.out.drewN _⟩
    · obtain rfl : j = l.length := by omega
      have hg2 := HG.out
      rw [List.drop_length, rsgB] at hg2
      subst hg2
      go_wp2_with fail
      go_ret
      exact ⟨rfl, HN.out⟩
set_option maxRecDepth 100000 in
set_option maxHeartbeats 2000000 in
theorem ref_CheckRise (l r : List Int) (v u : Value) (w : World) (hv : IntsAt w v l) (hu : IntsAt w u r) (hl : l.length ≤ 1000000) : Calls Tryd.prog 17 #[v, u] w fun e w' =>
    e = .returned (.tuple #[.int .i64 (crC l r : Nat), .int .i64 (crE l r)]) ∧ New w w' := by
  have HS := Lib.hid (ref_serials l v w hv hl)
  have HR := Lib.hid (ref_RisingB r u w hu)
  have HV := Lib.hid hv
  have HU := Lib.hid hu
  obtain ⟨A, c, rfl, b1, b2⟩ := hv.form
  obtain ⟨A', c', rfl, b1', b2'⟩ := hu.form
  clear hv hu
  by_cases he : serE l = 0
  · rw [he] at HS
    by_cases hlen : r.length = l.length
    · by_cases hris : rsgB 0 r = true
      · have e1 : crE l r = 0 := by rw [crE, if_neg (by rw [he]; simp), if_neg (by rw [hris]; simp [hlen])]
        have e2 : crC l r = neqN l r l.length := if_pos e1
        rw [e1, e2]
        rw [hris] at HR
        rw [hlen] at HR HU b1' ⊢
        have HLEN := Lib.hid hlen
        clear he e1 e2 hlen
        go_enter Tryd.func17, Tryd.ntmps17
        go_wp2_with fail
        refine HS.out.mono ?_
        rintro e w' ⟨rfl, rfl⟩
        go_wp2_with fail
        refine HR.out.mono ?_
        rintro e W1 ⟨rfl, hn1⟩
        have HN1 := Lib.hid hn1
        clear hn1
        go_wp2_with fail
        go_loopw [8, 7] (fun s8 s7 wr => ∃ j : Nat, j ≤ l.length ∧ s8 = .int .i64 j ∧ s7 = .int .i64 (neqN l r j : Nat) ∧ New w wr) (fun i _ _ => l.length - (intOf i).toNat)
        case atStart => exact ⟨0, by omega, rfl, rfl, HN1.out⟩
        case round =>
          obtain ⟨j, hj, rfl, rfl, hn⟩ := hrel
          have HN := Lib.hid hn
          clear hn
          by_cases hlt : j < l.length
          · obtain ⟨gb, off, rfl, -, hc⟩ := ints_cell (HV.out.keep HN.out) (by omega)
            obtain ⟨gb', off', rfl, -, hc'⟩ := ints_cell (HU.out.keep HN.out) (by have := HLEN.out; omega)
            have x1 := hc j hlt
            have hjr : j < r.length := by have := HLEN.out; omega
            have x2 := hc' j hjr
            have hle := neqN_le l r j
            have hst : neqN l r (j + 1) = neqN l r j + (if l[j]'hlt = r[j]'hjr then 0 else 1) := by
              rw [neqN, getElem!_pos l j hlt, getElem!_pos r j hjr]
            have HST := Lib.hid hst
            clear hc hc' hst
            have i1 : (j : Int) < (l.length : Int) := by omega
            generalize neqN l r j = nj at *
            generalize l[j]'hlt = x at *
            generalize r[j]'hjr = y at *
            clear hjr
            by_cases hxy : x = y
            · have h2 : (x == y) = true := by rw [hxy]; simp
              subst hxy
              go_upto_region 10 with fail
              go_quiet (fail)
              go_wp2_with fail
              refine ⟨⟨j + 1, by omega, by go_num, by rw [HST.out]; simp, HN.out.drewN _⟩, by simp [intOf] <;> omega⟩
            · have h2 : (x == y) = false := by rw [beq_eq_false_iff_ne]; exact hxy
              go_upto_region 10 with fail
              go_quiet (fail)
              go_wp2_with fail
              refine ⟨⟨j + 1, by omega, by go_num, by rw [HST.out, if_neg hxy]; go_num, HN.out.drewN _⟩, by simp [intOf] <;> omega⟩
          · obtain rfl : j = l.length := by omega
            go_wp2_with fail
            go_ret2
            exact ⟨rfl, HN.out⟩
      · have hrf : rsgB 0 r = false := by simpa using hris
        have e1 : crE l r = 43 := by rw [crE, if_neg (by rw [he]; simp), if_pos (.inr hrf)]
        have e2 : crC l r = 0 := if_neg (by rw [e1]; decide)
        rw [e1, e2]
        rw [hrf] at HR
        rw [hlen] at HR HU b1' ⊢
        clear he e1 e2 hris hrf hlen
        go_enter Tryd.func17, Tryd.ntmps17
        go_wp2_with fail
        refine HS.out.mono ?_
        rintro e w' ⟨rfl, rfl⟩
        go_wp2_with fail
        refine HR.out.mono ?_
        rintro e W1 ⟨rfl, hn1⟩
        have HN1 := Lib.hid hn1
        clear hn1
        go_wp2_with fail
        go_ret2
        exact ⟨rfl, HN1.out⟩
    · have e1 : crE l r = 43 := by rw [crE, if_neg (by rw [he]; simp), if_pos (.inl hlen)]
      have e2 : crC l r = 0 := if_neg (by rw [e1]; decide)
      rw [e1, e2]
      clear he e1 e2
      have hlI : ¬ ((r.length : Int) = (l.length : Int)) := by omega
      have hlB : ((r.length : Int) == (l.length : Int)) = false := by rw [beq_eq_false_iff_ne]; exact hlI
      go_enter Tryd.func17, Tryd.ntmps17
      go_wp2_with fail
      refine HS.out.mono ?_
      rintro e w' ⟨rfl, rfl⟩
      go_wp2_with fail
      go_ret2
      exact ⟨rfl, New.refl _⟩
  · have e1 : crE l r = serE l := if_pos he
    have e2 : crC l r = 0 := if_neg (by rw [e1]; exact he)
    rw [e1, e2]
    have hE : (serE l != 0) = true := by rw [bne_iff_ne]; exact he
    clear e1 e2
    generalize serE l = E at *
    go_enter Tryd.func17, Tryd.ntmps17
    go_wp2_with fail
    refine HS.out.mono ?_
    rintro e w' ⟨rfl, rfl⟩
    go_wp2_with fail
    go_ret2
    exact ⟨rfl, New.refl _⟩
set_option maxHeartbeats 2000000 in
theorem law_same (l : List Int) (v u : Value) (w : World) (hv : IntsAt w v l) (hu : IntsAt w u l) : Calls Tryd.prog 18 #[v, u] w fun e w' => e = .returned (.bool true) ∧ New w w' := by
  have HV := Lib.hid hv
  have HU := Lib.hid hu
  obtain ⟨A, c, rfl, b1, b2⟩ := hv.form
  obtain ⟨A', c', rfl, b1', b2'⟩ := hu.form
  clear hv hu
  go_enter Tryd.func18, Tryd.ntmps18
  go_wp2_with fail
  go_loopw [5] (fun s5 wr => ∃ j : Nat, j ≤ l.length ∧ s5 = .int .i64 j ∧ New w wr) (fun i _ => l.length - (intOf i).toNat)
  case atStart => exact ⟨0, by omega, rfl, New.refl _⟩
  case round =>
    obtain ⟨j, hj, rfl, hn⟩ := hrel
    have HN := Lib.hid hn
    clear hn
    by_cases hlt : j < l.length
    · obtain ⟨gb, off, rfl, -, hc⟩ := ints_cell (HV.out.keep HN.out) (by omega)
      obtain ⟨gb', off', rfl, -, hc'⟩ := ints_cell (HU.out.keep HN.out) (by omega)
      have x1 := hc j hlt
      have x2 := hc' j hlt
      have i1 : (j : Int) < (l.length : Int) := by omega
      clear hc hc'
      generalize l[j]'hlt = x at *
      go_upto_region 6 with fail
      go_quiet (fail)
      go_wp2_with fail
      refine ⟨⟨j + 1, by omega, by go_num, HN.out.drewN _⟩, by simp [intOf] <;> omega⟩
    · obtain rfl : j = l.length := by omega
      go_wp2_with fail
      go_ret
      exact ⟨rfl, HN.out⟩
theorem natsV_ints (k : List Nat) : natsV k = intsV (k.map (fun (n : Nat) => (n : Int))) := by
  rw [natsV, intsV, List.map_map]; rfl
theorem nats_at {w : World} {base : Nat} {v : Value} {k : List Nat} (h : w.ownsRow base 3 1 v k.length (natsV k)) : IntsAt w v (k.map (fun (n : Nat) => (n : Int))) := by
  rw [natsV_ints] at h
  exact IntsAt.owns (base := base) (by rw [List.length_map]; exact h)
end Go.Proofs.YthodoabppkeidaaDoor
