/-
  slices.Chunk at []int: a range over its iterator gets the rows of a table, one after the other. Condition: the slice's length is a multiple of the chunk's, and lies in memory.
-/
import Derived.Test.YthodoabppkeidaaGreatDoorCpTurn
import Derived.RangeFuncBox
import Derived.RangeFuncNested
import Derived.RangeFuncBound
import Derived.RangeFuncCalls
import Derived.RangeFuncLeaves
import Derived.Shelf.Abstract
import Derived.Shelf.RegionOpen
import Derived.OwnWalkIn
import Derived.TacticsInMore
import Derived.LoopNIn
import Derived.LoopIn
namespace Go.Proofs.YthodoabppkeidaaGreatDoor
open Go Go.RowKit Go.Shelf
attribute [local go_sem] Oper.semAt_some
/-- The number of a chunk, below N. -/
abbrev Ck (N : Nat) := { x : Nat // x < N }
/-- Two variables that a round leaves as they are. -/
def KpC (B1 B2 : Nat) (W W' : World) : Prop := W'.cell? ⟨B1, 0, none⟩ = W.cell? ⟨B1, 0, none⟩ ∧ W'.cell? ⟨B2, 0, none⟩ = W.cell? ⟨B2, 0, none⟩
theorem KpC.refl (B1 B2 : Nat) (W : World) : KpC B1 B2 W W := ⟨rfl, rfl⟩
theorem KpC.trans {B1 B2 : Nat} {A B C : World} (h : KpC B1 B2 A B) (k : KpC B1 B2 B C) : KpC B1 B2 A C := ⟨k.1.trans h.1, k.2.trans h.2⟩
theorem KpC.drew {B1 B2 : Nat} {A B : World} (h : KpC B1 B2 A B) : KpC B1 B2 A B.drew := h
def ckV (g M : Nat) {N : Nat} (x : Ck N) : Value := .slice (some ⟨g, x.1 * M, none⟩) M M
set_option maxHeartbeats 1000000 in
theorem cp_Chunk (F : Fence) (n : Nat) (h1 : F.fn 100) (hro : F.round = none) (A : Option Addr) (L C : Nat) (M : Nat) (hM : 1 ≤ M) (w : World) :
    CallsIn F n Tryz.prog 100 #[.slice A L C, .int .i64 M] w fun e w' => e = .returned (.func (.func 121) #[] #[.pointer (some ⟨w.heap.size, 0, none⟩), .pointer (some ⟨w.heap.size + 1, 0, none⟩)]) ∧ w' = (w.alloc (.cells #[.slice A L C] 25)).alloc (.cells #[.int .i64 M] 3) := by
  have hM' : ¬ ((M : Int) < 1) := by omega
  refine callsIn_of_wp Tryz.func100 rfl h1 ?_ hro
  simp only [Tryz.ntmps100, List.size_toArray, List.length_cons, List.length_nil, Nat.reduceAdd, Nat.reduceSub, Array.replicate_succ, Array.replicate_zero, List.push_toArray, List.append_toArray, List.nil_append, List.cons_append]
  gi_wp2
  go_ret
  exact ⟨rfl, rfl⟩
set_option maxRecDepth 100000 in
set_option maxHeartbeats 2000000 in
theorem cp_Chunk1 (F : Fence) (n : Nat) (h1 : F.fn 121) (hro : F.round = none) (hn : 1 ≤ n) (l B1 B2 g N M C : Nat) (hM : 1 ≤ M) (hM2 : M ≤ 1000) (hN2 : N ≤ 1000) (hC : N * M ≤ C) (_ : C ≤ 9223372036854775807) (J Jx : List (Ck N) → World → Prop) (hJ : ∀ s W W', J s W → W.grownBy W' none → J s W')
    (hY : ∀ pre x W, J pre W → pre.length < N → YieldAt F (n - 1) Tryz.prog l #[ckV g M x] W fun e W' =>
      (e = .returned (.bool true) ∧ J (pre ++ [x]) W' ∧ KpC B1 B2 W W') ∨ (e = .returned (.bool false) ∧ Jx (pre ++ [x]) W'))
    (W : World) (hB1 : W.cell? ⟨B1, 0, none⟩ = some (.slice (some ⟨g, 0, none⟩) (N * M) C)) (hB2 : W.cell? ⟨B2, 0, none⟩ = some (.int .i64 M)) (h0 : J [] W) :
    CallsIn F n Tryz.prog 121 #[.func (.yield l) #[] #[], .pointer (some ⟨B1, 0, none⟩), .pointer (some ⟨B2, 0, none⟩)] W fun e W' => (∃ v, e = .returned v) ∧
      ((∃ ys : List (Ck N), ys.map (·.1) = List.range N ∧ J ys W') ∨ (∃ pre : List (Ck N), True ∧ Jx pre W')) := by
  have HNM : Hid (N * M ≤ 1000000) := Lib.hid (Nat.mul_le_mul hN2 hM2)
  refine callsIn_of_wp Tryz.func121 rfl h1 ?_ hro
  simp only [Tryz.ntmps121, List.size_toArray, List.length_cons, List.length_nil, Nat.reduceAdd, Nat.reduceSub, Array.replicate_succ, Array.replicate_zero, List.push_toArray, List.append_toArray, List.nil_append, List.cons_append]
  gi_wp2
  gi_loopw [4] (fun i wr => ∃ (k p : Nat) (pre : List (Ck N)), k ≤ N ∧ i = .int .i64 p ∧ Hid (p = k * M) ∧ Hid (pre.map (·.1) = List.range k) ∧ J pre wr ∧ KpC B1 B2 W wr) (fun i _ => N * M + 1 - (intOf i).toNat)
  case atStart => exact ⟨0, 0, [], Nat.zero_le _, rfl, Lib.hid (by omega), Lib.hid rfl, h0, KpC.refl _ _ _⟩
  case round =>
    obtain ⟨k, p, pre, hk, rfl, HP, HPre, hJs, hnx⟩ := hrel
    have z1 := hnx.1.trans hB1
    have z2 := hnx.2.trans hB2
    have HNx := Lib.hid hnx
    clear hnx
    by_cases hlt : k < N
    · have hpm : p + M ≤ N * M := by
        have h2 := HP.out
        have h3 : (k + 1) * M ≤ N * M := Nat.mul_le_mul_right _ (by omega)
        rw [Nat.add_mul, Nat.one_mul] at h3
        omega
      have hl : pre.length = k := by have := congrArg List.length HPre.out; simpa using this
      obtain ⟨fn, tmps, assign, body, hy, hR⟩ := hY _ ⟨k, hlt⟩ wr.drew (hJ _ _ _ hJs (grown_of (New.refl wr).drew none)) (by omega)
      simp only [ckV, ← HP.out] at hy
      have z1d : wr.drew.cell? ⟨B1, 0, none⟩ = some (.slice (some ⟨g, 0, none⟩) (N * M) C) := z1
      have z2d : wr.drew.cell? ⟨B2, 0, none⟩ = some (.int .i64 M) := z2
      have HNd := Lib.hid (HNx.out.drew)
      have HY := Lib.hid hy
      have HRR := Lib.hid hR
      have hNM := HNM.out
      have hmn : min (M : Int) ((N * M - p : Nat) : Int) = (M : Int) := by omega
      clear hY hy hR h0 hB1 hB2
      generalize N * M = L at *
      gi_wp2
      gi_region
      all_goals
        clear hmn z1 z2
        have hJd : J pre wr.drew := hJ _ _ _ hJs (grown_of (New.refl wr).drew none)
        generalize wr.drew = wd at *
        have hy := HY.out
        gi_wp2
        refine HRR.out.mono ?_
        rintro e W3 (⟨rfl, hJ3, hk3⟩ | ⟨rfl, hJx3⟩)
        · have z3 := hk3.1.trans z1d
          have z4 := hk3.2.trans z2d
          have HN3 := Lib.hid (HNd.out.trans hk3)
          clear z1d z2d hk3 hJd hy
          gi_wp2
          go_roundw
          case rel =>
            refine ⟨k + 1, p + M, _, by omega, by go_num, Lib.hid ?_, Lib.hid ?_, hJ3, HN3.out⟩
            · rw [HP.out, Nat.add_mul, Nat.one_mul]
            · rw [List.map_append, HPre.out, List.range_succ]; rfl
          case measure => simp [intOf]; omega
        · gi_wp2
          refine bodyPost_ret (results_none rfl _ _ _) rfl ?_
          exact ⟨⟨_, rfl⟩, .inr ⟨_, trivial, hJx3⟩⟩
    · obtain rfl : k = N := by omega
      have hpn := HP.out
      subst hpn
      gi_wp2
      go_end0
      exact ⟨⟨_, rfl⟩, .inl ⟨pre, HPre.out, hJs⟩⟩
end Go.Proofs.YthodoabppkeidaaGreatDoor
