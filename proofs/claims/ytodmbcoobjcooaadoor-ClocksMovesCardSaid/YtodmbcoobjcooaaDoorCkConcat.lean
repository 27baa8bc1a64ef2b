/-
  slices.Concat at ties: all ties, one list after the other, in memory of its own. Condition: some ties, at most a thousand.
-/
import Derived.Test.YtodmbcoobjcooaaDoorCkNames
import Derived.Test.YtodmbcoobjcooaaDoorCkGenC
import Derived.Lib.AppendZerosOnto
import Derived.Laws.Concat
namespace Go.Proofs.YtodmbcoobjcooaaDoor
open Go Go.RowKit Go.Shelf
theorem info_ti : (Tryd.prog.info? 79).map (fun i => (i.zero, i.size, i.bytes)) = some (some (.agg #[.int .i64 0, .int .i64 0, .int .i64 0, .int .i64 0]), 4, 32) := by kernel_rfl
def tiCs (t : Ti) : List Value := [.int .i64 t.a.log, .int .i64 t.a.line, .int .i64 t.b.log, .int .i64 t.b.line]
def tisV (l : List Ti) : List Value := l.flatMap tiCs
theorem tisV_len (l : List Ti) : (tisV l).length = l.length * 4 := by rw [tisV, fm_len tiCs 4 (fun _ => rfl)]
theorem tisV_one (l : List Ti) : ∀ u ∈ tisV l, u.oneCell' = true := fun u hu => by
  obtain ⟨t, _, h⟩ := List.mem_flatMap.1 hu
  simp only [tiCs, List.mem_cons, List.not_mem_nil, or_false] at h
  rcases h with rfl | rfl | rfl | rfl <;> rfl
/-- A slice of ties. -/
def TisAt (w : World) (v : Value) (l : List Ti) : Prop :=
  (v = .slice none 0 0 ∧ l = []) ∨ ∃ b off c, v = .slice (some ⟨b, off, none⟩) l.length c ∧ ∀ i x, (tisV l)[i]? = some x → w.cell? ⟨b, off + i, none⟩ = some x
theorem TisAt.keep {w w' : World} {v : Value} {l : List Ti} (h : TisAt w v l) (k : New w w') : TisAt w' v l := by
  rcases h with h | ⟨b, off, c, h1, h5⟩
  · exact .inl h
  · exact .inr ⟨b, off, c, h1, fun i x hx => k.cellOf (h5 i x hx)⟩
theorem TisAt.form {w : World} {v : Value} {l : List Ti} (h : TisAt w v l) : ∃ A c, v = .slice A l.length c := by
  rcases h with ⟨h1, h2⟩ | ⟨b, off, c, h1, _⟩
  · subst h2
    exact ⟨_, _, h1⟩
  · exact ⟨_, _, h1⟩
def sumLen (xs : List (List Ti)) : Nat := (xs.map List.length).sum
theorem sumLen_flat (xs : List (List Ti)) : xs.flatten.length = sumLen xs := by simp [sumLen]
theorem sumLen_take (xs : List (List Ti)) {j : Nat} (hj : j < xs.length) : sumLen (xs.take (j + 1)) = sumLen (xs.take j) + xs[j].length := by
  rw [sumLen, sumLen, List.take_succ_eq_append_getElem hj, List.map_append, List.sum_append]
  simp
theorem sumLen_le (xs : List (List Ti)) (j : Nat) : sumLen (xs.take j) ≤ sumLen xs := by
  have h : sumLen xs = sumLen (xs.take j) + sumLen (xs.drop j) := by
    conv => lhs; rw [← List.take_append_drop j xs]
    rw [sumLen, sumLen, sumLen, List.map_append, List.sum_append]
  omega
/-- slices.Grow of no slice: room, and nothing in it. -/
theorem ck_Grow (n : Nat) (w : World) (h0 : 0 < n) (hn : n ≤ 1000) : Calls Tryd.prog 124 #[.slice none 0 0, .int .i64 n] w fun e w' => ∃ cap, n ≤ cap ∧ e = .returned (.slice (some ⟨w.heap.size, 0, none⟩) 0 cap) ∧ (w'.ownsRow w.heap.size 79 4 (.slice (some ⟨w.heap.size, 0, none⟩) 0 cap) 0 [] ∧ New w w') := by
  obtain ⟨i0, hi0, hz0, hz1, hz2⟩ := info_parts info_ti
  have hG := Any8.slices_Grow_grow Tryd.growTie (ρ := Tryd.growTie_ren) i0 (.agg #[.int .i64 0, .int .i64 0, .int .i64 0, .int .i64 0]) hi0 hz0 (by rw [hz1]; decide) none 0 0 n [] w (by omega) (by omega) (by rw [hz2]; omega) (by omega) (by simp) (fun _ => rfl) (fun a h => by cases h)
  refine Calls.mono hG ?_
  rintro e w' ⟨rfl, rfl⟩
  have hc := grownCap_ge w (0 + n) 0 79
  have hm := grownCap_le_maxLen w (0 + n) 0 79 (by unfold maxLen; omega)
  refine ⟨grownCap w (0 + n) 0 79, by omega, rfl, ⟨rfl, .inr ⟨_, _, _, rfl, Nat.le_refl _, heap_alloc_new w.drew _, Nat.zero_le _, hm, ?_, by simp⟩⟩, (New.refl w).drew.alloc _⟩
  have e1 : ∀ k, (Builtin.zeroCells (Value.agg #[.int .i64 0, .int .i64 0, .int .i64 0, .int .i64 0]).cells k).size = k * 4 := fun k => by
    rw [size_zeroCells]; simp [Value.cells]
  show (_ : Array Value).size = _
  rw [Array.size_append, Array.size_append, e1, e1]
  show 0 + (0 + n - 0) * 4 + (grownCap w (0 + n) 0 79 - (0 + n)) * 4 = grownCap w (0 + n) 0 79 * 4
  omega
set_option maxRecDepth 100000 in
set_option maxHeartbeats 1000000 in
theorem ck_Concat (vs : List Value) (xs : List (List Ti)) (w : World) (BB O c : Nat) (hB : BB < w.heap.size) (hC : ∀ (i : Nat) (u : Value), vs[i]? = some u → w.cell? ⟨BB, O + i, none⟩ = some u) (hl : vs.length = xs.length) (hx : ∀ (i : Nat) (u : Value) (l : List Ti), vs[i]? = some u → xs[i]? = some l → TisAt w u l) (h0 : 0 < sumLen xs) (hn : sumLen xs ≤ 1000) (hk : xs.length ≤ 10) :
    Calls Tryd.prog 100 #[.slice (some ⟨BB, O, none⟩) vs.length c] w fun e w' => ∃ v', e = .returned v' ∧ (w'.ownsRow w.heap.size 79 4 v' (sumLen xs) (tisV xs.flatten) ∧ New w w') := by
  have HX := Lib.hid hx
  have hxl : 0 < xs.length := by
    rcases Nat.eq_zero_or_pos xs.length with h | h
    · rw [List.length_eq_zero_iff] at h; subst h; simp [sumLen] at h0
    · exact h
  have HC := Lib.hid hC
  clear hC hx
  go_enter Tryd.func100, Tryd.ntmps100
  go_wp2_with fail
  go_loopw [11, 3] (fun s11 s3 wr => ∃ j : Nat, j ≤ xs.length ∧ s11 = .int .i64 j ∧ s3 = .int .i64 (sumLen (xs.take j) : Nat) ∧ wr = w) (fun i _ _ => xs.length - (intOf i).toNat)
  case atStart => exact ⟨0, by omega, rfl, by simp [sumLen], rfl⟩
  case round =>
    obtain ⟨j, hj, rfl, rfl, hw⟩ := hrel
    have hw' := hw.symm
    subst hw'
    clear hw
    by_cases hlt : j < xs.length
    · have hlv : j < vs.length := by omega
      have hc := HC.out j _ (List.getElem?_eq_getElem hlv)
      have hi := HX.out j _ _ (List.getElem?_eq_getElem hlv) (List.getElem?_eq_getElem hlt)
      obtain ⟨A', c', e'⟩ := hi.form
      have hs := sumLen_take xs hlt
      have hs2 := sumLen_le xs (j + 1)
      rw [e'] at hc
      clear hi e'
      generalize (xs[j]'hlt).length = m at *
      generalize sumLen (xs.take j) = sj at *
      go_wp2_with fail
      refine ⟨⟨j + 1, by omega, by go_num, by rw [hs]; go_num, trivial⟩, by simp [intOf]; omega⟩
    · obtain rfl : j = xs.length := by omega
      rw [List.take_length]
      go_wp2_with fail
      refine (ck_Grow _ w h0 hn).mono ?_
      rintro e w1 ⟨cap, hcap, rfl, ho, hb⟩
      have HO := Lib.hid ho
      have HB := Lib.hid hb
      clear ho hb
      go_wp2_with fail
      have HLL := Lib.hid hl
      go_loopw [27, 6] (fun s27 s6 wr => ∃ j : Nat, j ≤ xs.length ∧ s27 = .int .i64 j ∧ s6 = .slice (some ⟨w.heap.size, 0, none⟩) (sumLen (xs.take j)) cap ∧ wr.ownsRow w.heap.size 79 4 (.slice (some ⟨w.heap.size, 0, none⟩) (sumLen (xs.take j)) cap) (sumLen (xs.take j)) (tisV (xs.take j).flatten) ∧ New w wr) (fun i _ _ => xs.length - (intOf i).toNat)
      case atStart => exact ⟨0, by omega, rfl, rfl, HO.out, HB.out⟩
      case round =>
        obtain ⟨j, hj, rfl, rfl, ho, hw⟩ := hrel
        have HO2 := Lib.hid ho
        have HW2 := Lib.hid hw
        clear ho hw
        by_cases hlt : j < xs.length
        · have hlv : j < vs.length := by rw [HLL.out]; exact hlt
          have hc := (HW2.out.cell (p := ⟨BB, O + j, none⟩) hB).trans (HC.out j _ (List.getElem?_eq_getElem hlv))
          have hi := (HX.out j _ _ (List.getElem?_eq_getElem hlv) (List.getElem?_eq_getElem hlt)).keep HW2.out
          have hs := sumLen_take xs hlt
          have hs2 := sumLen_le xs (j + 1)
          have hfl : (xs.take (j + 1)).flatten = (xs.take j).flatten ++ xs[j]'hlt := by
            rw [List.take_succ_eq_append_getElem hlt, List.flatten_append]; simp
          obtain ⟨ao, ac, e', hnone, hcell⟩ : ∃ ao ac, vs[j]'hlv = .slice ao (xs[j]'hlt).length ac ∧ (ao = none → (xs[j]'hlt).length = 0 ∧ ac = 0) ∧ ∀ ad, ao = some ad → ∀ i u, (tisV (xs[j]'hlt))[i]? = some u → wr.cell? (ad.add i) = some u := by
            rcases hi with ⟨h1, h2⟩ | ⟨b, off, c, h1, h5⟩
            · exact ⟨none, 0, by rw [h1, h2]; rfl, fun _ => ⟨by rw [h2]; rfl, rfl⟩, fun ad h => by cases h⟩
            · refine ⟨_, c, h1, (fun h => by cases h), fun ad h i u hu => ?_⟩
              cases h
              have hadd : (⟨b, off, none⟩ : Addr).add i = ⟨b, off + i, none⟩ := by unfold Addr.add; split <;> simp_all
              rw [hadd]
              exact h5 i u hu
          rw [e'] at hc
          have HFL := Lib.hid hfl
          have HS := Lib.hid hs
          have HNO := Lib.hid hnone
          have HCE := Lib.hid hcell
          have hil := tisV_len (xs[j]'hlt)
          have HIL := Lib.hid hil
          clear hi e' hfl hs hnone hcell hil
          generalize xs[j]'hlt = x at *
          obtain ⟨i0, hi0, hz0, hz1, hz2⟩ := info_parts info_ti
          have HI := Lib.hid (And.intro hi0 hz1)
          clear hi0 hz0 hz1 hz2
          generalize sumLen (xs.take j) = sj at *
          go_wp2_with (at_builtin; refine wpList_append_fits_any _ rfl (.tmp 31) (.tmp 32) 23 rfl w.heap.size 79 i0 4 Tryd.underlying23 HI.out.1 HI.out.2 w.heap.size sj cap (tisV (xs.take j).flatten) rfl HO2.out ao x.length ac (tisV x) rfl ?c1 ?c2 ?c3 ?c4 ?c5 ?_)
          case c1 => rw [HIL.out]
          case c2 => exact HNO.out
          case c3 => exact HCE.out
          case c4 =>
            intro u hu
            exact tisV_one _ u hu
          case c5 => have := HS.out; omega
          intro w3 ho3 hg3
          have HN3 := Lib.hid (Below.trans HW2.out (grown_below HO2.out hg3 HW2.out.size))
          have HO3 := Lib.hid ho3
          clear ho3 hg3
          go_wp2_with fail
          refine ⟨⟨j + 1, by omega, by go_num, ?_, ?_, HN3.out⟩, by simp [intOf]; omega⟩
          · rw [HS.out]
          · rw [HS.out, HFL.out, tisV, List.flatMap_append]
            exact HO3.out
        · obtain rfl : j = xs.length := by omega
          rw [List.take_length] at *
          go_wp2_with fail
          go_ret
          exact ⟨_, rfl, HO2.out, HW2.out⟩
end Go.Proofs.YtodmbcoobjcooaaDoor
