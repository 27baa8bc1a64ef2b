/-
  turns of the program: the days on which rows begin, or are no longer, in force, each one once, in order. Condition: the rows are valid, and there is one at least.
-/
import Derived.Test.YtkbdmdnahphkkaaGreatDoorTabOf
import Derived.Test.YtkbdmdnahphkkaaGreatDoorTabTurns
import Derived.Test.YtkbdmdnahphkkaaGreatDoorShelf
import Derived.Test.YtkbdmdnahphkkaaGreatDoorRefSplit
import Derived.Sort.OwnSortedInts
import Derived.Lib.RowBridge
namespace Go.Proofs.YtkbdmdnahphkkaaGreatDoor
open Go.RowKit Go.Sort
theorem info_i : (Tryz.prog.info? 3).map (fun i => (i.zero, i.size, i.bytes)) = some (some (.int .i64 0), 1, 8) := by kernel_rfl
theorem days_take {l : List Rw} {k : Nat} {r : Rw} (h : l[k]? = some r) : daysL (l.take (k + 1)) = daysL (l.take k) ++ [r.frm, r.til + 1] := by
  unfold daysL
  rw [List.take_add_one, h, Option.toList_some, List.flatMap_append]
  simp
theorem rows_days {l : List Rw} (h : rowsB l = true) {r : Rw} (hr : r ∈ l) : 0 ≤ r.frm ∧ r.frm ≤ 99999 ∧ 0 ≤ r.til ∧ r.til ≤ 99999 ∧ r.frm ≤ r.til := by
  unfold rowsB at h
  have := List.all_eq_true.1 (Bool.and_eq_true_iff.1 h).2 r hr
  unfold rowB at this
  simp only [Bool.and_eq_true, withinB_iff, decide_eq_true_eq] at this
  omega
theorem two_ints (w : World) (a b : Int) : ∀ (j : Nat) u, [Value.int .i64 a, Value.int .i64 b][j]? = some u → (w.alloc (.cells #[.int .i64 a, .int .i64 b] 3)).cell? ((⟨w.heap.size, 0, none⟩ : Addr).add j) = some u := by
  intro j u hj
  match j, hj with
  | 0, hj => simp at hj; subst hj; simp [Addr.add]
  | 1, hj => simp at hj; subst hj; simp [Addr.add]
theorem two_cell (a b : Int) : ∀ u ∈ [Value.int .i64 a, Value.int .i64 b], u.oneCell' = true := by
  intro u hu
  simp at hu
  rcases hu with rfl | rfl <;> rfl
/-- A list of days as a slice of the call's own. -/
def DaysAt (w0 : World) (zs : List Int) (v : Value) (w : World) : Prop := w.ownsRow w0.heap.size 3 1 v zs.length (zs.map (Value.int .i64)) ∧ New w0 w
/-- The turns in memory. -/
def TurnsAt (w : World) (g : Nat) (ts : List Int) : Prop := ∀ j, j < ts.length → w.cell? ⟨g, j, none⟩ = some (.int .i64 (ts.getD j 0))
theorem TurnsAt.keep {w w' : World} {g : Nat} {ts : List Int} (h : TurnsAt w g ts) (k : New w w') : TurnsAt w' g ts := fun j hj => k.cellOf (h j hj)
theorem sortI_len (zs : List Int) : (sortI zs).length = zs.length := List.length_mergeSort _
set_option maxHeartbeats 4000000 in
theorem air_turns (A : Option Addr) (n c b : Nat) (l : List Rw) (call stem : Bytes) (w : World) (hl : RowsAt w A n l) (hv : rowsB l = true) (h0 : 0 < n) :
    Calls Tryz.prog 41 #[.agg #[.slice A n c, .map (some b), .string (B call), .string (B stem)]] w fun e w' => ∃ g cap, e = .returned (.slice (some ⟨g, 0, none⟩) (turnsV l).length cap) ∧ New w w' ∧ TurnsAt w' g (turnsV l) := by
  obtain ⟨i0, hi, hz0, hz1, hz2⟩ := info_parts info_i
  have HL := Lib.hid hl
  have HLN := Lib.hid hl.1
  have HV := Lib.hid hv
  have h4 : n ≤ 400 := by have := rowsB_len hv; have := hl.1; omega
  have HN := Lib.hid ((New.refl w).alloc (.cells #[.slice A n c, .map (some b), .string (B call), .string (B stem)] 69))
  clear hl hv
  go_enter Tryz.func41, Tryz.ntmps41
  go_wp2_with fail
  go_loopw [3, 10] (fun v x wr => ∃ k : Nat, k ≤ n ∧ x = .int .i64 k ∧ DaysAt w (daysL (l.take k)) v wr) (fun _ x _ => n - (intOf x).toNat)
  case atStart => exact ⟨0, by omega, rfl, World.ownsRow_nil _ _ _ _, HN.out⟩
  case round =>
    obtain ⟨k, hk, rfl, hd⟩ := hrel
    by_cases hlt : k < n
    · obtain ⟨bb, off, r, rfl, hr, _, hrow⟩ := HL.out.row hd.2 hlt
      obtain ⟨c0, c1, c2, c3, c4, c5, c6⟩ := hrow
      have hdays := rows_days HV.out (List.mem_of_getElem? hr)
      have hw : wrap64 (r.til + 1) = r.til + 1 := by unfold wrap64; omega
      have HDT := Lib.hid (days_take hr)
      have hown := hd.1
      have hlen : (daysL (l.take k)).length = 2 * k := by rw [days_len, List.length_take, HLN.out, Nat.min_eq_left hk]
      have hns := hd.2.size
      have HD := Lib.hid hd
      clear hr hd
      go_wp2_with (at_builtin; refine wpList_append_own _ rfl (.tmp 14) (.tmp 20) 51 rfl w.heap.size 3 i0 (.int .i64 0) 1 8 Tryz.underlying51 hi hz0 hz1 hz2 rfl (by decide) _ _ _ rfl ((hown.alloc _).alloc _) ⟨wr.heap.size + 1, 0, none⟩ 2 2 [.int .i64 r.frm, .int .i64 (r.til + 1)] rfl rfl ?c1 ?c2 ?c3 ?c4 ?c5 ?_)
      case c1 =>
        have h := two_ints (wr.alloc (.cells #[.string (B r.text), .int .i64 r.country, .int .i64 r.zone, .int .i64 r.cont, .int .i64 r.frm, .int .i64 r.til, .bool r.whole] 49)) r.frm (r.til + 1)
        simpa using h
      case c2 => exact two_cell _ _
      case c3 => unfold maxLen; omega
      case c4 => omega
      case c5 => simp; omega
      · intro v' w1 hown' hgrow _
        have hN : New w w1 := ((HD.out.2.alloc (.cells #[.string (B r.text), .int .i64 r.country, .int .i64 r.zone, .int .i64 r.cont, .int .i64 r.frm, .int .i64 r.til, .bool r.whole] 49)).alloc (.cells #[.int .i64 r.frm, .int .i64 (r.til + 1)] 3)).out.grown hgrow (by simp; omega) (fun b hb => (hown.lt b hb).1)
        have R : DaysAt w (daysL (l.take (k + 1))) v' w1 := by
          refine ⟨?_, hN⟩
          rw [HDT.out, List.length_append, List.map_append, hlen]
          exact hown'
        clear hown' hgrow hN hown c0 c1 c2 c3 c4 c5 c6
        go_wp2_with fail
        exact ⟨⟨k + 1, by omega, rfl, R⟩, by simp [intOf]; omega⟩
    · obtain rfl : k = n := by omega
      have HT : Hid (daysL (l.take k) = daysL l) := Lib.hid (by rw [List.take_of_length_le (by rw [HLN.out]; omega)])
      rw [HT.out] at hd
      have hlen : (daysL l).length = 2 * k := by rw [days_len, HLN.out]
      have hsl : (sortI (daysL l)).length = 2 * k := by rw [sortI_len, hlen]
      have hcl := Lib.compact_length_le (sortI (daysL l))
      obtain ⟨hown, hN⟩ := hd
      rcases hown.2 with ⟨_, hz⟩ | ⟨g, cap, cur, rfl, hbase, hb, h1, h2, h3, h5⟩
      · omega
      have HH : Hid (Holds (Value.int .i64) wr g 0 (daysL l).toArray) := Lib.hid (holds_of_blockI hb (by simpa using h5))
      have hg : g < wr.heap.size := (Array.getElem?_eq_some_iff.1 hb).1
      have HB := Lib.hid hb
      have HNW := Lib.hid hN
      clear hown hb hN h5
      rw [hlen]
      go_wp2_with fail
      refine (show Calls _ _ _ _ _ from by have h := Tryz.slices_Sort_int g 0 cap (daysL l) wr HH.out hg (by omega); rw [hlen] at h; exact h).mono ?_
      rintro e w1 ⟨rfl, q, os, rfl⟩
      have HB1 := Lib.hid (heap_sortedI (n := q) (os := os) (sortI (daysL l)).toArray HB.out)
      have HG1 := Lib.hid (grownBy_sortedI (w := wr) (g := g) (n := q) (os := os) (sortI (daysL l)).toArray)
      have HS1 : Hid (Holds (Value.int .i64) (grow (putRow (Value.int .i64) (Sort.ahead wr q) g 0 (sortI (daysL l)).toArray) os) g 0 (sortI (daysL l)).toArray) :=
        Lib.hid (holds_of_blockI HB1.out (take_putCellsI cur (sortI (daysL l)) (by rw [hsl]; omega)))
      change Hid _ at HB1
      generalize hW1 : grow (putRow (Value.int .i64) (Sort.ahead wr q) g 0 (sortI (daysL l)).toArray) os = W1 at *
      have hW1' : grow (putRow (Value.int .i64) (Sort.ahead wr q) g 0 ((daysL l).mergeSort fun x y => decide (x ≤ y)).toArray) os = W1 := hW1
      rw [hW1']
      clear hW1 hW1'
      go_wp2_with fail
      refine (show Calls _ _ _ _ _ from by have h := Tryz.slices_Compact_int g 0 cap (sortI (daysL l)) W1 HS1.out (by omega) (by omega); rw [hsl] at h; exact h).mono ?_
      rintro e w2 ⟨rfl, q2, rfl⟩
      go_wp2_with fail
      go_ret
      refine ⟨g, cap, rfl, ?_, ?_⟩
      · have hA : New w W1 := HNW.out.out.grown HG1.out (by exact HNW.out.size) (fun b hb => by cases hb; exact hbase)
        have hg2 := grownBy_sortedI (w := W1) (g := g) (n := q2) (os := #[]) (Lib.compact (sortI (daysL l)) ++ List.replicate (2 * k - (Lib.compact (sortI (daysL l))).length) 0).toArray
        rw [grow_empty] at hg2
        exact hA.out.grown hg2 hA.size (fun b hb => by cases hb; exact hbase)
      · intro j hj
        have hj' : j < (Lib.compact (sortI (daysL l))).length := hj
        have h := cell?_putRow (Value.int .i64) (Sort.ahead W1 q2) g 0 (sortI (daysL l)).toArray (Lib.compact (sortI (daysL l)) ++ List.replicate (2 * k - (Lib.compact (sortI (daysL l))).length) 0).toArray (fun i hi => HS1.out i hi) (by simp; omega) j (by simp; omega)
        rw [Nat.zero_add] at h
        refine h.trans ?_
        rw [getElem!_pos _ j (by simp; omega)]
        simp only [List.getElem_toArray]
        rw [List.getElem_append_left hj']
        unfold turnsV
        rw [List.getD_eq_getElem?_getD, List.getElem?_eq_getElem hj']
        rfl

end Go.Proofs.YtkbdmdnahphkkaaGreatDoor
