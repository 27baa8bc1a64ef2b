/-
  chain of the program: the first of the longest lists of numbers that can stay. Condition: at most 400 numbers from 0 to 99999, in memory.
-/
import Derived.Test.YthodoabppkeidaaGreatDoorCpChain
import Derived.Deep.CutRange
import Derived.Deep.DeepCutAuto
import Derived.Deep.AppendLies
import Derived.Laws.EntriesVeiled
namespace Go.Proofs.YthodoabppkeidaaGreatDoor
open Go Go.RowKit
/-- The kept places, counted from 0. -/
def keptI (l : List Int) : List Nat := (kept l).map (· - 1)
def natsV (l : List Nat) : List Value := l.map intV
theorem natsV_len (l : List Nat) : (natsV l).length = l.length := by simp [natsV]
theorem mkA_range {l : List Int} (h : ∀ x ∈ l, 0 ≤ x ∧ x ≤ 99999) : ∀ i, i ≤ l.length + 1 → 0 ≤ mkA l i ∧ mkA l i ≤ 100000
  | 0, _ => by rw [mkA_zero]; omega
  | i + 1, hi => by
    rcases Nat.lt_or_ge i l.length with hl | hl
    · rw [mkA_succ l hl]
      have := h _ (List.getElem_mem hl)
      omega
    · obtain rfl : i = l.length := by omega
      rw [mkA_last]; omega
theorem mkA_get (l : List Int) {i : Nat} (h : i ≤ l.length + 1) : (intsV ([[0], l, [100000]] : List (List Int)).flatten)[i]? = some (.int .i64 (mkA l i)) := by
  have e : ([[0], l, [100000]] : List (List Int)).flatten = 0 :: (l ++ [100000]) := by simp
  have hi : i < (0 :: (l ++ [100000]) : List Int).length := by simp; omega
  rw [e, intsV, List.getElem?_map, List.getElem?_eq_getElem hi, mkA, List.getD_eq_getElem?_getD, List.getElem?_eq_getElem hi]
  rfl
theorem RowIs.ints {W : World} {g : Nat} {l : List Int} (h : RowIs W g 3 (intsV l)) (hl : l.length ≤ 1000000) : IntsAt W (.slice (some ⟨g, 0, none⟩) l.length l.length) l :=
  .inr ⟨g, 0, l.length, rfl, Nat.le_refl _, by omega, fun _ => h.lt, fun i x hx => by rw [Nat.zero_add]; exact h.cell hx⟩
theorem kpF_stop (a : Nat → Int) (last n : Nat) : kpF a last n last = [] := by cases n <;> simp [kpF]
section four
variable (W : World) (a b c d : Obj)
theorem four_size : ((((W.alloc a).alloc b).alloc c).alloc d).drew.heap.size = W.heap.size + 1 + 1 + 1 + 1 := by simp
theorem four_new : New W ((((W.alloc a).alloc b).alloc c).alloc d).drew := (((((New.refl W).alloc a).alloc b).alloc c).alloc d).drew
theorem four0 : ((((W.alloc a).alloc b).alloc c).alloc d).drew.heap[W.heap.size]? = some a :=
  heap_keep ((((New.refl _).alloc b).alloc c).alloc d).drew (heap_alloc_new W a)
theorem four1 : ((((W.alloc a).alloc b).alloc c).alloc d).drew.heap[W.heap.size + 1]? = some b := by
  have h := heap_alloc_new (W.alloc a) b
  rw [World.size_alloc] at h
  exact heap_keep (((New.refl _).alloc c).alloc d).drew h
theorem four2 : ((((W.alloc a).alloc b).alloc c).alloc d).drew.heap[W.heap.size + 1 + 1]? = some c := by
  have h := heap_alloc_new ((W.alloc a).alloc b) c
  rw [World.size_alloc, World.size_alloc] at h
  exact heap_keep ((New.refl _).alloc d).drew h
theorem four3 : ((((W.alloc a).alloc b).alloc c).alloc d).drew.heap[W.heap.size + 1 + 1 + 1]? = some d := by
  have h := heap_alloc_new (((W.alloc a).alloc b).alloc c) d
  rw [World.size_alloc, World.size_alloc, World.size_alloc] at h
  exact heap_keep (New.refl _).drew h
end four
theorem row_zeros {W : World} {g n : Nat} {e : TypeId} {z : Value} (h : W.heap[g]? = some (.cells (Array.replicate n z) e)) : RowIs W g e (List.replicate n z) := by
  unfold RowIs
  rw [h, List.toArray_replicate]
theorem row_one {W : World} {g : Nat} {e : TypeId} {v : Value} (h : W.heap[g]? = some (.cells #[v] e)) : W.cell? ⟨g, 0, none⟩ = some v := RowIs.cell (cs := [v]) (e := e) h rfl
set_option maxRecDepth 100000 in
set_option maxHeartbeats 4000000 in
theorem cp_chain (l : List Int) (v : Value) (w : World) (hv : IntsAt w v l) (hl : l.length ≤ 400) (hr : ∀ x ∈ l, 0 ≤ x ∧ x ≤ 99999) :
    Calls Tryz.prog 93 #[v] w fun e w' => ∃ v', e = .returned v' ∧ (w'.ownsRow w.heap.size 3 1 v' (keptI l).length (natsV (keptI l)) ∧ New w w') := by
  have HV := Lib.hid hv
  have HR := Lib.hid hr
  obtain ⟨A, c, rfl, b1, b2⟩ := hv.form
  clear hv hr
  go_enter Tryz.func93, Tryz.ntmps93
  go_wp2_with fail
  have hcon : Hid (Calls Tryz.prog 118 #[.slice (some ⟨w.heap.size + 1 + 1, 0, none⟩) 3 3] (((w.alloc (.cells #[.int .i64 0] 3)).alloc (.cells #[.int .i64 100000] 3)).alloc (.cells #[.slice (some ⟨w.heap.size, 0, none⟩) 1 1, .slice A l.length c, .slice (some ⟨w.heap.size + 1, 0, none⟩) 1 1] 25)) fun e w' =>
      ∃ v', e = .returned v' ∧ (w'.ownsRow w.heap.size 3 1 v' (l.length + 1 + 1) (intsV ([[0], l, [100000]] : List (List Int)).flatten) ∧ New w w')) := Lib.hid (by
    have k1 := (New.refl w).alloc (.cells #[.int .i64 0] 3)
    have r1 := RowIs.new w 3 (intsV [0])
    have k2 := (New.refl (w.alloc (.cells #[.int .i64 0] 3))).alloc (.cells #[.int .i64 100000] 3)
    have r2 := RowIs.new (w.alloc (.cells #[.int .i64 0] 3)) 3 (intsV [100000])
    have k3 := (New.refl ((w.alloc (.cells #[.int .i64 0] 3)).alloc (.cells #[.int .i64 100000] 3))).alloc (.cells #[.slice (some ⟨w.heap.size, 0, none⟩) 1 1, .slice A l.length c, .slice (some ⟨w.heap.size + 1, 0, none⟩) 1 1] 25)
    have r3 := RowIs.new ((w.alloc (.cells #[.int .i64 0] 3)).alloc (.cells #[.int .i64 100000] 3)) 25 [.slice (some ⟨w.heap.size, 0, none⟩) 1 1, .slice A l.length c, .slice (some ⟨w.heap.size + 1, 0, none⟩) 1 1]
    have i0 : IntsAt _ _ [0] := (r1.keep (k2.trans k3)).ints (by simp)
    have i1 := HV.out.keep ((k1.trans k2).trans k3)
    have i2 : IntsAt _ _ [100000] := (r2.keep k3).ints (by simp)
    have s3 := r3.slice (by simp)
    simp only [World.size_alloc] at i2 s3
    have hs : sumLen [[0], l, [100000]] = l.length + 1 + 1 := by simp [sumLen]; omega
    have hc := cp_Concat _ _ [[0], l, [100000]] _ s3 rfl (fun i u x hu hx => by
      match i, hu, hx with
      | 0, hu, hx => obtain rfl := Option.some.inj hu; obtain rfl := Option.some.inj hx; exact i0
      | 1, hu, hx => obtain rfl := Option.some.inj hu; obtain rfl := Option.some.inj hx; exact i1
      | 2, hu, hx => obtain rfl := Option.some.inj hu; obtain rfl := Option.some.inj hx; exact i2
      | i + 3, hu, hx => simp at hu) (by rw [hs]; omega) (by rw [hs]; omega) (by simp)
    rw [hs] at hc
    refine hc.mono ?_
    rintro e w' ⟨v', rfl, ho, hn⟩
    exact ⟨v', rfl, owns_base ho (by simp; omega), ((k1.trans k2).trans k3).trans hn⟩)
  refine hcon.out.mono ?_
  rintro e W1 ⟨mv, rfl, mo, mn⟩
  clear hcon
  obtain ⟨gm, mc, rfl⟩ := ownsRow_succ mo
  have hgm := mo.lt gm rfl
  have HM : Hid (∀ i, i ≤ l.length + 1 → W1.cell? ⟨gm, i, none⟩ = some (.int .i64 (mkA l i))) := Lib.hid (fun i hi => by
    rw [mo.cellAt i (by omega), mkA_get l hi])
  have HN1 := Lib.hid mn
  clear mo mn
  go_wp2_with fail
  have hR3 := (RowIs.new W1 25 [.slice (some ⟨gm, 0, none⟩) (l.length + 1 + 1) mc]).cell (i := 0) rfl
  have hk1 := (New.refl W1).alloc (.cells #[.slice (some ⟨gm, 0, none⟩) (l.length + 1 + 1) mc] 25)
  have hR4 := (RowIs.new (W1.alloc (.cells #[.slice (some ⟨gm, 0, none⟩) (l.length + 1 + 1) mc] 25)) 3 [.int .i64 ((l.length : Int) + 1)]).cell (i := 0) rfl
  have hk2 := (New.refl (W1.alloc (.cells #[.slice (some ⟨gm, 0, none⟩) (l.length + 1 + 1) mc] 25))).alloc (.cells #[.int .i64 ((l.length : Int) + 1)] 3)
  have hR5 := (RowIs.new ((W1.alloc (.cells #[.slice (some ⟨gm, 0, none⟩) (l.length + 1 + 1) mc] 25)).alloc (.cells #[.int .i64 ((l.length : Int) + 1)] 3)) 165 [.func (.func 119) #[] #[.pointer (some ⟨W1.heap.size, 0, none⟩)]]).cell (i := 0) rfl
  have hk3 := (New.refl ((W1.alloc (.cells #[.slice (some ⟨gm, 0, none⟩) (l.length + 1 + 1) mc] 25)).alloc (.cells #[.int .i64 ((l.length : Int) + 1)] 3))).alloc (.cells #[.func (.func 119) #[] #[.pointer (some ⟨W1.heap.size, 0, none⟩)]] 165)
  simp only [World.size_alloc] at hR4 hR5
  have hs3 : (((W1.alloc (.cells #[.slice (some ⟨gm, 0, none⟩) (l.length + 1 + 1) mc] 25)).alloc (.cells #[.int .i64 ((l.length : Int) + 1)] 3)).alloc (.cells #[.func (.func 119) #[] #[.pointer (some ⟨W1.heap.size, 0, none⟩)]] 165)).heap.size = W1.heap.size + 3 := by simp
  have d3 := ((hk2.trans hk3).cell (p := ⟨W1.heap.size, 0, none⟩) (by simp)).trans hR3
  have d4 := (hk3.cell (p := ⟨W1.heap.size + 1, 0, none⟩) (by simp)).trans hR4
  have d5 := hR5
  have HN4 := Lib.hid ((hk1.trans hk2).trans hk3)
  clear hR3 hR4 hR5 hk1 hk2 hk3
  generalize ((W1.alloc (.cells #[.slice (some ⟨gm, 0, none⟩) (l.length + 1 + 1) mc] 25)).alloc (.cells #[.int .i64 ((l.length : Int) + 1)] 3)).alloc (.cells #[.func (.func 119) #[] #[.pointer (some ⟨W1.heap.size, 0, none⟩)]] 165) = W4 at *
  have hmk : ∀ W, (Instr.makeSlice 25 (.int .i64 ((l.length : Int) + 1 + 1)) (.int .i64 ((l.length : Int) + 1 + 1))).run Tryz.prog W = .ok (.slice (some ⟨W.heap.size, 0, none⟩) (l.length + 1 + 1) (l.length + 1 + 1)) (W.alloc (.cells (Array.replicate (l.length + 1 + 1) (Value.int .i64 0)) 3)) := fun W => by
    have := make_ints (l.length + 1 + 1) (by omega) W
    rw [show ((l.length + 1 + 1 : Nat) : Int) = (l.length : Int) + 1 + 1 by omega] at this
    exact this
  have D3 := Lib.hid d3
  have D4 := Lib.hid d4
  have D5 := Lib.hid d5
  have HS3 := Lib.hid hs3
  clear d4 d5 hs3
  have e3 := fun o => cell_alloc_some o d3
  have e4 := fun o o' => cell_alloc_some o' (cell_alloc_some o d3)
  have e5 := fun o o' o'' => cell_alloc_some o'' (cell_alloc_some o' (cell_alloc_some o d3))
  go_cut [6, 7] (fun s6 s7 wx => ∃ gs gn p6 p7 : Nat, s6 = .pointer (some ⟨p6, 0, none⟩) ∧ s7 = .pointer (some ⟨p7, 0, none⟩) ∧ wx.cell? ⟨p6, 0, none⟩ = some (.slice (some ⟨gs, 0, none⟩) (l.length + 1 + 1) (l.length + 1 + 1)) ∧ wx.cell? ⟨p7, 0, none⟩ = some (.slice (some ⟨gn, 0, none⟩) (l.length + 1 + 1) (l.length + 1 + 1)) ∧
    RowIs wx gs 3 (List.replicate (l.length + 1 + 1) (.int .i64 0)) ∧ RowIs wx gn 3 (List.replicate (l.length + 1 + 1) (.int .i64 0)) ∧
    gs ≠ gn ∧ (p6 ≠ gs ∧ p6 ≠ gn) ∧ (p7 ≠ gs ∧ p7 ≠ gn) ∧ (W4.heap.size ≤ gs ∧ W4.heap.size ≤ gn) ∧ (p6 < wx.heap.size ∧ p7 < wx.heap.size) ∧ New W4 wx)
  case first =>
    go_region
    all_goals
      go_wp2_with fail
      go_meet
      case rel =>
        exact ⟨_, _, _, _, rfl, rfl, (by first | exact row_one (four0 ..) | exact row_one (four1 ..) | exact row_one (four2 ..) | exact row_one (four3 ..)), (by first | exact row_one (four0 ..) | exact row_one (four1 ..) | exact row_one (four2 ..) | exact row_one (four3 ..)), (by first | exact row_zeros (four0 ..) | exact row_zeros (four1 ..) | exact row_zeros (four2 ..) | exact row_zeros (four3 ..)), (by first | exact row_zeros (four0 ..) | exact row_zeros (four1 ..) | exact row_zeros (four2 ..) | exact row_zeros (four3 ..)), (by omega), ⟨by omega, by omega⟩, ⟨by omega, by omega⟩, ⟨by omega, by omega⟩, ⟨by rw [four_size]; omega, by rw [four_size]; omega⟩, four_new ..⟩
  case rest =>
    obtain ⟨gs, gn, p6, p7, rfl, rfl, c6, c7, rs, rn, ne, ⟨n61, n62⟩, ⟨n71, n72⟩, ⟨ls, ln⟩, ⟨l6, l7⟩, hn⟩ := hcut
    have hsz : W4.heap.size = W1.heap.size + 3 := HS3.out
    have HN5 := Lib.hid (HN4.out.trans hn)
    have k6 := (New.refl wc).alloc (.cells #[.func (.func 120) #[] #[.pointer (some ⟨W1.heap.size + 1, 0, none⟩), .pointer (some ⟨p6, 0, none⟩), .pointer (some ⟨W1.heap.size + 1 + 1, 0, none⟩), .pointer (some ⟨wc.heap.size, 0, none⟩), .pointer (some ⟨p7, 0, none⟩)]] 86)
    have r8 := RowIs.new wc 86 [.func (.func 120) #[] #[.pointer (some ⟨W1.heap.size + 1, 0, none⟩), .pointer (some ⟨p6, 0, none⟩), .pointer (some ⟨W1.heap.size + 1 + 1, 0, none⟩), .pointer (some ⟨wc.heap.size, 0, none⟩), .pointer (some ⟨p7, 0, none⟩)]]
    have c8 := r8.cell (i := 0) rfl
    have hCH : Hid (ChAt (wc.alloc (.cells #[.func (.func 120) #[] #[.pointer (some ⟨W1.heap.size + 1, 0, none⟩), .pointer (some ⟨p6, 0, none⟩), .pointer (some ⟨W1.heap.size + 1 + 1, 0, none⟩), .pointer (some ⟨wc.heap.size, 0, none⟩), .pointer (some ⟨p7, 0, none⟩)]] 86)) W1.heap.size (W1.heap.size + 1) (W1.heap.size + 1 + 1) p6 p7 wc.heap.size gs gn gm (mkA l) (l.length + 1) mc (fun _ => 0) (fun _ => 0)) := Lib.hid (by
      have e0 : List.replicate (l.length + 1 + 1) (Value.int .i64 0) = rowF (l.length + 1 + 1) (fun _ => 0) := by
        rw [rowF]; apply List.ext_getElem? ; intro j
        by_cases hj : j < l.length + 1 + 1
        · rw [List.getElem?_map, List.getElem?_range hj, List.getElem?_replicate, if_pos hj]; rfl
        · rw [List.getElem?_eq_none (by simpa using hj), List.getElem?_eq_none (by simpa using hj)]
      rw [e0] at rs rn
      have hw4 := hn.size
      have d4 := D4.out
      have lgs := rs.lt
      have lgn := rn.lt
      refine ⟨((hn.trans k6).cell (p := ⟨W1.heap.size, 0, none⟩) (by show W1.heap.size < _; omega)).trans D3.out, by
          have := ((hn.trans k6).cell (p := ⟨W1.heap.size + 1, 0, none⟩) (by show W1.heap.size + 1 < _; omega)).trans D4.out
          rw [this]; simp,
        ((hn.trans k6).cell (p := ⟨W1.heap.size + 1 + 1, 0, none⟩) (by show W1.heap.size + 1 + 1 < _; omega)).trans D5.out, (k6.cell (p := ⟨p6, 0, none⟩) l6).trans c6, (k6.cell (p := ⟨p7, 0, none⟩) l7).trans c7, c8,
        fun i hi => ((HN5.out.trans k6).cell (p := ⟨gm, i, none⟩) hgm.2).trans (HM.out i hi), rs.keep k6, rn.keep k6, ne, fun x hx => ?_, mkA_range HR.out, by omega⟩
      simp only [List.mem_cons, List.not_mem_nil, or_false] at hx
      have hk := k6.size
      have hgm2 := hgm.2
      simp only [World.size_alloc]
      rcases hx with rfl | rfl | rfl | rfl | rfl | rfl | rfl <;> refine ⟨?_, ?_, ?_⟩ <;> omega)
    clear r8 c8 rs rn c6 c7
    have HN6 := Lib.hid (HN1.out.trans (HN5.out.trans k6))
    go_wp2_with fail
    have hk0 := kept_is (l := l) (by omega)
    have ho0 := ok_ends l (by omega)
    have hsz0 := cp_size (l.length + 1) 0 (by omega) (by omega) ho0 _ _ _ hCH.out (fun j _ _ => .inl rfl)
    have HS0 := Lib.hid hsz0
    clear hsz0 hk0 ho0
    generalize hW6 : wc.alloc (.cells #[.func (.func 120) #[] #[.pointer (some ⟨W1.heap.size + 1, 0, none⟩), .pointer (some ⟨p6, 0, none⟩), .pointer (some ⟨W1.heap.size + 1 + 1, 0, none⟩), .pointer (some ⟨wc.heap.size, 0, none⟩), .pointer (some ⟨p7, 0, none⟩)]] 86) = W6 at *
    refine HS0.out.mono ?_
    rintro e W7 ⟨rfl, Sz, Nx, hc7, hp7, hu7⟩
    have HC7 := Lib.hid hc7
    have HP7 := Lib.hid hp7
    have HN7 : Hid (New w W7) := Lib.hid (Upd2.new HN6.out (by have := HN1.out.size; omega) (by have := HN1.out.size; omega) hu7)
    have hnx := nx_at (a := mkA l) (last := l.length + 1) (i := 0) (by omega) (ok_ends l (by omega))
    have hm0 : Sz 0 = (szL (mkA l) (l.length + 1) 0).1 ∧ Nx 0 = (szL (mkA l) (l.length + 1) 0).2 ∧ ((szL (mkA l) (l.length + 1) 0).2 = l.length + 1 ∨ Sz (szL (mkA l) (l.length + 1) 0).2 ≠ 0) := by
      rcases hp7.mem 0 (Nat.le_refl _) (by omega) with h | h
      · have h1 := hp7.size
        have h2 := hnx.size
        omega
      · exact h
    have HM0 := Lib.hid hm0
    have d7 := hc7.c7
    have d4 := hc7.c4
    have s0 := hc7.rn.cell (rowF_at Nx (show 0 < l.length + 1 + 1 by omega))
    unfold intV at s0
    clear hc7 hp7 hu7 hm0 hCH
    go_wp2_with fail
    obtain ⟨i0, hi0, hz0, hz1, hz2⟩ := info_parts info_int
    have HI := Lib.hid (And.intro hi0 (And.intro hz0 (And.intro hz1 hz2)))
    clear hi0 hz0 hz1 hz2 d7 d4 s0
    go_loopg [10, 9] (l.length + 1) (fun gk s10 s9 wr => ∃ (i n : Nat) (pre : List Nat), s10 = .int .i64 i ∧ i ≤ l.length + 1 ∧ pre.length < i ∧ okS (mkA l) i (l.length + 1) = true ∧ (i = l.length + 1 ∨ Sz i ≠ 0) ∧ l.length + 1 - i ≤ n ∧ l.length + 1 - i ≤ gk ∧
      wr.ownsRow W7.heap.size 3 1 s9 pre.length (natsV (pre.map (· - 1))) ∧ pre ++ kpF (mkA l) (l.length + 1) n i = kept l ∧ New W7 wr)
    case atStart =>
      refine ⟨Nx 0, l.length + 1, [], rfl, ?_, ?_, ?_, ?_, by omega, by omega, World.ownsRow_nil _ _ _ _, ?_, New.refl _⟩ <;> rw [HM0.out.2.1]
      · exact hnx.le
      · exact hnx.lt
      · exact hnx.on
      · exact HM0.out.2.2
      · rfl
    case round =>
      obtain ⟨i, n, pre, rfl, hil, hpi, hok, hre, hni, hgi, hown, hpre, hnw⟩ := hrel
      obtain ⟨PA, PC, rfl⟩ := owns_form hown
      have HOW := Lib.hid hown
      have HPR := Lib.hid hpre
      have HNW := Lib.hid hnw
      have hc8 := HC7.out.keep hnw
      have d4 := hc8.c4
      have d7 := hc8.c7
      clear hown hpre hnw
      have hsw := HNW.out.size
      by_cases hlt : i < l.length + 1
      · have s0 := hc8.rn.cell (rowF_at Nx (show i < l.length + 1 + 1 by omega))
        unfold intV at s0
        have hx := nx_at hlt hok
        have hmm : Nx i = (szL (mkA l) (l.length + 1) i).2 ∧ ((szL (mkA l) (l.length + 1) i).2 = l.length + 1 ∨ Sz (szL (mkA l) (l.length + 1) i).2 ≠ 0) := by
          rcases HP7.out.mem i (Nat.zero_le _) hil with h | h
          · rcases hre with h1 | h1
            · omega
            · exact absurd h h1
          · exact h.2
        rw [hmm.1] at s0
        have HX := Lib.hid hx
        have HMM := Lib.hid hmm
        clear hx hmm hre
        have e1 : ¬ ((i : Int) = (l.length : Int) + 1) := by omega
        have i1 : IntKind.i64.wrap ((i : Int) - 1) = (i : Int) - 1 := IntWalk.i64_in _ (by omega)
        have i2 : (i : Int) < ((l.length + 1 + 1 : Nat) : Int) := by omega
        clear s0
        go_wp2_with (at_builtin; go_loud (refine wpList_append_lies _ rfl (.tmp 39) (.tmp 42) 25 rfl W7.heap.size 3 i0 (.int .i64 0) 1 8 Tryz.underlying25 HI.out.1 HI.out.2.1 HI.out.2.2.1 HI.out.2.2.2 rfl (by decide) (.slice PA pre.length PC) pre.length (natsV (pre.map (· - 1))) rfl (owns_keep HOW.out ((New.refl wr).alloc _)) ⟨wr.heap.size, 0, none⟩ 1 1 [.int .i64 ((i : Int) - 1)] rfl rfl ?c1 ?c2 (by decide) ?c3 ?c4 ?c5 _ rfl ?_))
        case c1 => exact World.news_of_block (heap_alloc_new _ _)
        case c2 => simp [Value.oneCell']
        case c3 => unfold maxLen; omega
        case c4 => omega
        case c5 => simp; omega
        intro g cap w4 ho hg _ _
        have ka : New wr (wr.alloc (.cells #[.int .i64 ((i : Int) - 1)] 3)) := (New.refl wr).alloc _
        have hn4 : New W7 w4 := Below.trans (HNW.out.trans ka) (grown_below (owns_keep HOW.out ka) hg (Nat.le_trans hsw ka.size))
        have HO4 : Hid (w4.ownsRow W7.heap.size 3 1 (.slice (some ⟨g, 0, none⟩) (pre.length + 1) cap) (pre ++ [i]).length (natsV ((pre ++ [i]).map (· - 1)))) := Lib.hid (by
          rw [List.length_append, List.length_singleton, List.map_append, natsV, List.map_append]
          have e2 : intV (i - 1) = .int .i64 ((i : Int) - 1) := by unfold intV; congr 1; omega
          show World.ownsRow _ _ _ _ _ _ (natsV (pre.map (· - 1)) ++ [intV (i - 1)])
          rw [e2]
          exact ho)
        have HN4' := Lib.hid hn4
        have hc9 := HC7.out.keep hn4
        have d7' := hc9.c7
        have s0 := hc9.rn.cell (rowF_at Nx (show i < l.length + 1 + 1 by omega))
        unfold intV at s0
        rw [HMM.out.1] at s0
        clear hc8 hc9 ho hg hn4 ka d4 d7 e1
        generalize hq : (szL (mkA l) (l.length + 1) i).2 = ni at s0
        have HQ := Lib.hid hq
        clear hq
        go_wp2_with fail
        have x1 := HX.out.lt
        have x2 := HX.out.le
        have x3 := HX.out.on
        have x4 := HMM.out.2
        rw [HQ.out] at x1 x2 x3 x4
        go_roundg (l.length + 1 - ni)
        case measure => omega
        case rel =>
          obtain ⟨n', rfl⟩ : ∃ n', n = n' + 1 := ⟨n - 1, by omega⟩
          refine ⟨ni, n', pre ++ [i], rfl, x2, by rw [List.length_append, List.length_singleton]; omega, x3, x4, by omega, Nat.le_refl _, ?_, ?_, HN4'.out⟩
          · exact HO4.out
          · rw [← HPR.out, kpF, if_neg (by omega), HQ.out, List.append_assoc]
            rfl
      · obtain rfl : i = l.length + 1 := by omega
        have hkp := HPR.out
        rw [kpF_stop, List.append_nil] at hkp
        have HKP := Lib.hid hkp
        clear hkp
        go_wp2_with fail
        go_ret
        refine ⟨_, rfl, ?_, HN7.out.trans HNW.out⟩
        have e1 : (keptI l).length = pre.length := by rw [keptI, List.length_map, ← HKP.out]
        rw [e1, keptI, ← HKP.out]
        exact owns_base HOW.out HN7.out.size
end Go.Proofs.YthodoabppkeidaaGreatDoor
