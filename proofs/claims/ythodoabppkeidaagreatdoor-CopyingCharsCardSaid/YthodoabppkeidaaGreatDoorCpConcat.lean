/-
  slices.Concat at slices of numbers: all numbers, one list after the other, in memory of its own. Condition: some numbers, at most a thousand, in at most ten lists.
-/
import Derived.Test.YthodoabppkeidaaGreatDoorCpDig
import Derived.Test.YthodoabppkeidaaGreatDoorCpGenC
import Derived.Lib.AppendZerosOnto
namespace Go.Proofs.YthodoabppkeidaaGreatDoor
open Go Go.RowKit Go.Shelf
def intsV (l : List Int) : List Value := l.map (Value.int .i64)
theorem intsV_len (l : List Int) : (intsV l).length = l.length := by simp [intsV]
/-- A slice of numbers. -/
def IntsAt (w : World) (v : Value) (l : List Int) : Prop :=
  (v = .slice none 0 0 ∧ l = []) ∨ ∃ b off c, v = .slice (some ⟨b, off, none⟩) l.length c ∧ l.length ≤ c ∧ c ≤ 9223372036854775807 ∧ (0 < l.length → b < w.heap.size) ∧ ∀ i x, (intsV l)[i]? = some x → w.cell? ⟨b, off + i, none⟩ = some x
theorem IntsAt.keep {w w' : World} {v : Value} {l : List Int} (h : IntsAt w v l) (k : New w w') : IntsAt w' v l := by
  rcases h with h | ⟨b, off, c, h1, h2, h3, h4, h5⟩
  · exact .inl h
  · refine .inr ⟨b, off, c, h1, h2, h3, fun h => Nat.lt_of_lt_of_le (h4 h) k.size, fun i x hx => ?_⟩
    have hi := (List.getElem?_eq_some_iff.1 hx).1
    rw [intsV_len] at hi
    exact (k.cell (p := ⟨b, off + i, none⟩) (h4 (by omega))).trans (h5 i x hx)
theorem IntsAt.form {w : World} {v : Value} {l : List Int} (h : IntsAt w v l) : ∃ A c, v = .slice A l.length c ∧ l.length ≤ c ∧ c ≤ 9223372036854775807 := by
  rcases h with ⟨h1, h2⟩ | ⟨b, off, c, h1, h2, h3, _⟩
  · subst h2
    exact ⟨_, _, h1, by simp, by omega⟩
  · exact ⟨_, _, h1, h2, h3⟩
theorem IntsAt.sl {w : World} {v : Value} {l : List Int} (h : IntsAt w v l) : SlAt w v (intsV l) := by
  rcases h with ⟨rfl, rfl⟩ | ⟨b, off, c, rfl, h2, h3, h4, h5⟩
  · exact SlAt.nil w
  · exact ⟨_, c, by rw [intsV_len], by rw [intsV_len]; exact h2, h3, fun h => ⟨b, off, rfl, h4 (by rwa [intsV_len] at h), h5⟩⟩
theorem IntsAt.owns {w : World} {base : Nat} {v : Value} {l : List Int} (h : w.ownsRow base 3 1 v l.length (intsV l)) : IntsAt w v l := by
  have h0 := h
  rcases h.2 with ⟨rfl, hz⟩ | ⟨g, cap, cur, rfl, hb, hh, h1, h2, h3, h4⟩
  · rw [List.length_eq_zero_iff] at hz
    exact .inl ⟨rfl, hz⟩
  · unfold maxLen at h2
    refine .inr ⟨g, 0, cap, rfl, h1, h2, fun _ => (Array.getElem?_eq_some_iff.1 hh).1, fun i x hx => ?_⟩
    have hi : i < (intsV l).length := (List.getElem?_eq_some_iff.1 hx).1
    rw [intsV_len] at hi
    rw [Nat.zero_add, h0.cellAt i (by omega), hx]
def sumLen (xs : List (List Int)) : Nat := (xs.map List.length).sum
theorem sumLen_flat (xs : List (List Int)) : xs.flatten.length = sumLen xs := by simp [sumLen]
theorem sumLen_take (xs : List (List Int)) {j : Nat} (hj : j < xs.length) : sumLen (xs.take (j + 1)) = sumLen (xs.take j) + xs[j].length := by
  rw [sumLen, sumLen, List.take_succ_eq_append_getElem hj, List.map_append, List.sum_append]
  simp
theorem sumLen_le (xs : List (List Int)) (j : Nat) : sumLen (xs.take j) ≤ sumLen xs := by
  have h : sumLen xs = sumLen (xs.take j) + sumLen (xs.drop j) := by
    conv => lhs; rw [← List.take_append_drop j xs]
    rw [sumLen, sumLen, sumLen, List.map_append, List.sum_append]
  omega
/-- slices.Grow of no slice: room, and nothing in it. -/
theorem cp_Grow (n : Nat) (w : World) (h0 : 0 < n) (hn : n ≤ 1000) : Calls Tryz.prog 130 #[.slice none 0 0, .int .i64 n] w fun e w' => ∃ cap, n ≤ cap ∧ e = .returned (.slice (some ⟨w.heap.size, 0, none⟩) 0 cap) ∧ (w'.ownsRow w.heap.size 3 1 (.slice (some ⟨w.heap.size, 0, none⟩) 0 cap) 0 [] ∧ New w w') := by
  obtain ⟨i0, hi0, hz0, hz1, hz2⟩ := info_parts info_int
  have hG := Any8.slices_Grow_grow Tryz.growInt (ρ := Tryz.growInt_ren) i0 (.int .i64 0) hi0 hz0 (by rw [hz1]; decide) none 0 0 n [] w (by omega) (by omega) (by rw [hz2]; omega) (by omega) (by simp) (fun _ => rfl) (fun a h => by cases h)
  refine Calls.mono hG ?_
  rintro e w' ⟨rfl, rfl⟩
  have hc := grownCap_ge w (0 + n) 0 3
  have hm := grownCap_le_maxLen w (0 + n) 0 3 (by unfold maxLen; omega)
  refine ⟨grownCap w (0 + n) 0 3, by omega, rfl, ⟨rfl, .inr ⟨_, _, _, rfl, Nat.le_refl _, heap_alloc_new w.drew _, Nat.zero_le _, hm, ?_, by simp⟩⟩, (New.refl w).drew.alloc _⟩
  have e1 : ∀ k, (Builtin.zeroCells (Value.int .i64 0).cells k).size = k := fun k => by
    rw [size_zeroCells]; simp [Value.cells]
  show (_ : Array Value).size = _
  rw [Array.size_append, Array.size_append, e1, e1]
  show 0 + (0 + n - 0) + (grownCap w (0 + n) 0 3 - (0 + n)) = _
  omega
set_option maxRecDepth 100000 in
set_option maxHeartbeats 1000000 in
theorem cp_Concat (v : Value) (vs : List Value) (xs : List (List Int)) (w : World) (hv : SlAt w v vs) (hl : vs.length = xs.length) (hx : ∀ (i : Nat) (u : Value) (l : List Int), vs[i]? = some u → xs[i]? = some l → IntsAt w u l) (h0 : 0 < sumLen xs) (hn : sumLen xs ≤ 1000) (hk : xs.length ≤ 10) :
    Calls Tryz.prog 118 #[v] w fun e w' => ∃ v', e = .returned v' ∧ (w'.ownsRow w.heap.size 3 1 v' (sumLen xs) (intsV xs.flatten) ∧ New w w') := by
  have HX := Lib.hid hx
  have HV := Lib.hid hv
  obtain ⟨A, c, rfl, a1, a2, a3⟩ := hv
  have hxl : 0 < xs.length := by
    rcases Nat.eq_zero_or_pos xs.length with h | h
    · rw [List.length_eq_zero_iff] at h; subst h; simp [sumLen] at h0
    · exact h
  obtain ⟨BB, O, rfl, hB, hC⟩ := a3 (by omega)
  have HC := Lib.hid hC
  clear a3 hC hx
  go_enter Tryz.func118, Tryz.ntmps118
  go_wp2_with fail
  go_loopw [11, 3] (fun s11 s3 wr => ∃ j : Nat, j ≤ xs.length ∧ s11 = .int .i64 j ∧ s3 = .int .i64 (sumLen (xs.take j) : Nat) ∧ wr = w) (fun i _ _ => xs.length - (intOf i).toNat)
  case atStart => exact ⟨0, by omega, rfl, by simp [sumLen], rfl⟩
  case round =>
    obtain ⟨j, hj, rfl, rfl, hw⟩ := hrel
    have hw' := hw.symm
    subst hw'
    clear hw
    by_cases hlt : j < xs.length
    · have hlv : j < vs.length := by omega
      have hc := HC.out j _ (List.getElem?_eq_getElem hlv)
      have hi := HX.out j _ _ (List.getElem?_eq_getElem hlv) (List.getElem?_eq_getElem hlt)
      obtain ⟨A', c', e', b1, b2⟩ := hi.form
      have hs := sumLen_take xs hlt
      have hs2 := sumLen_le xs (j + 1)
      rw [e'] at hc
      clear hi e'
      generalize (xs[j]'hlt).length = m at *
      generalize sumLen (xs.take j) = sj at *
      go_wp2_with fail
      refine ⟨⟨j + 1, by omega, by go_num, by rw [hs]; go_num, trivial⟩, by simp [intOf]; omega⟩
    · obtain rfl : j = xs.length := by omega
      rw [List.take_length]
      go_wp2_with fail
      refine (cp_Grow _ w h0 hn).mono ?_
      rintro e w1 ⟨cap, hcap, rfl, ho, hb⟩
      have HO := Lib.hid ho
      have HB := Lib.hid hb
      clear ho hb
      go_wp2_with fail
      have HLL := Lib.hid hl
      go_loopw [27, 6] (fun s27 s6 wr => ∃ j : Nat, j ≤ xs.length ∧ s27 = .int .i64 j ∧ s6 = .slice (some ⟨w.heap.size, 0, none⟩) (sumLen (xs.take j)) cap ∧ wr.ownsRow w.heap.size 3 1 (.slice (some ⟨w.heap.size, 0, none⟩) (sumLen (xs.take j)) cap) (sumLen (xs.take j)) (intsV (xs.take j).flatten) ∧ New w wr) (fun i _ _ => xs.length - (intOf i).toNat)
      case atStart => exact ⟨0, by omega, rfl, rfl, HO.out, HB.out⟩
      case round =>
        obtain ⟨j, hj, rfl, rfl, ho, hw⟩ := hrel
        have HO2 := Lib.hid ho
        have HW2 := Lib.hid hw
        clear ho hw
        by_cases hlt : j < xs.length
        · have hlv : j < vs.length := by rw [HLL.out]; exact hlt
          have hc := (HW2.out.cell (p := ⟨BB, O + j, none⟩) hB).trans (HC.out j _ (List.getElem?_eq_getElem hlv))
          have hi := (HX.out j _ _ (List.getElem?_eq_getElem hlv) (List.getElem?_eq_getElem hlt)).keep HW2.out
          have hs := sumLen_take xs hlt
          have hs2 := sumLen_le xs (j + 1)
          have hfl : (xs.take (j + 1)).flatten = (xs.take j).flatten ++ xs[j]'hlt := by
            rw [List.take_succ_eq_append_getElem hlt, List.flatten_append]; simp
          obtain ⟨ao, ac, e', hnone, hcell⟩ : ∃ ao ac, vs[j]'hlv = .slice ao (xs[j]'hlt).length ac ∧ (ao = none → (xs[j]'hlt).length = 0 ∧ ac = 0) ∧ ∀ ad, ao = some ad → ∀ i u, (intsV (xs[j]'hlt))[i]? = some u → wr.cell? (ad.add i) = some u := by
            rcases hi with ⟨h1, h2⟩ | ⟨b, off, c, h1, h2, h3, h4, h5⟩
            · exact ⟨none, 0, by rw [h1, h2]; rfl, fun _ => ⟨by rw [h2]; rfl, rfl⟩, fun ad h => by cases h⟩
            · refine ⟨_, c, h1, (fun h => by cases h), fun ad h i u hu => ?_⟩
              cases h
              have hadd : (⟨b, off, none⟩ : Addr).add i = ⟨b, off + i, none⟩ := by unfold Addr.add; split <;> simp_all
              rw [hadd]
              exact h5 i u hu
          rw [e'] at hc
          have HFL := Lib.hid hfl
          have HS := Lib.hid hs
          have HNO := Lib.hid hnone
          have HCE := Lib.hid hcell
          have hil := intsV_len (xs[j]'hlt)
          have HIL := Lib.hid hil
          clear hi e' hfl hs hnone hcell hil
          generalize xs[j]'hlt = x at *
          obtain ⟨i0, hi0, hz0, hz1, hz2⟩ := info_parts info_int
          have HI := Lib.hid (And.intro hi0 hz1)
          clear hi0 hz0 hz1 hz2
          generalize sumLen (xs.take j) = sj at *
          go_wp2_with (at_builtin; refine wpList_append_fits_any _ rfl (.tmp 31) (.tmp 32) 25 rfl w.heap.size 3 i0 1 Tryz.underlying25 HI.out.1 HI.out.2 w.heap.size sj cap (intsV (xs.take j).flatten) rfl HO2.out ao x.length ac (intsV x) rfl ?c1 ?c2 ?c3 ?c4 ?c5 ?_)
          case c1 => rw [HIL.out]; omega
          case c2 => exact HNO.out
          case c3 => exact HCE.out
          case c4 =>
            intro u hu
            rw [intsV, List.mem_map] at hu
            obtain ⟨z, _, rfl⟩ := hu
            rfl
          case c5 => have := HS.out; omega
          intro w3 ho3 hg3
          have HN3 := Lib.hid (Below.trans HW2.out (grown_below HO2.out hg3 HW2.out.size))
          have HO3 := Lib.hid ho3
          clear ho3 hg3
          go_wp2_with fail
          refine ⟨⟨j + 1, by omega, by go_num, ?_, ?_, HN3.out⟩, by simp [intOf]; omega⟩
          · rw [HS.out]
          · rw [HS.out, HFL.out, intsV, List.map_append]
            exact HO3.out
        · obtain rfl : j = xs.length := by omega
          rw [List.take_length] at *
          go_wp2_with fail
          go_ret
          exact ⟨_, rfl, HO2.out, HW2.out⟩
end Go.Proofs.YthodoabppkeidaaGreatDoor
