/-
  changes, swap of the specification: the least number of signs that turn one code into another one, and the cost of a swap. Condition: short codes.
-/
import Derived.Test.YthodoabppkeidaaGreatDoorCpRefH
import Derived.StillTailTactics
import Derived.BigQuiet
namespace Go.Proofs.YthodoabppkeidaaGreatDoor
open Go Go.RowKit
/-- The least cost between the beginnings of two codes. -/
def sgD (s h : Bytes) (i k : Nat) : Nat := lc signC (s.take i) (h.take k)
theorem sgD_zero (s h : Bytes) {q : Nat} (hq : q ≤ h.length) : sgD s h 0 q = q := by
  rw [sgD, List.take_zero, lc_nil, List.length_take, Nat.min_eq_left hq]
  show q * 1 = q
  omega
theorem sgD_left (s h : Bytes) {i : Nat} (hi : i ≤ s.length) : sgD s h i 0 = i := by
  rw [sgD, List.take_zero, lc_nil_r, List.length_take, Nat.min_eq_left hi]
  show i * 1 = i
  omega
theorem sgD_step (s h : Bytes) {i k : Nat} (hi : i < s.length) (hk : k < h.length) : sgD s h (i + 1) (k + 1) = min (sgD s h i k + (if s[i] = h[k] then 0 else 1)) (min (sgD s h i (k + 1) + 1) (sgD s h (i + 1) k + 1)) := lc_take s h i k hi hk
theorem sgD_end (s h : Bytes) : sgD s h s.length h.length = lc signC s h := by rw [sgD, List.take_length, List.take_length]
theorem sgD_le (s h : Bytes) (i k : Nat) : sgD s h i k ≤ s.length + h.length := by
  have h1 := lc_le (c := signC) (s.take i) (h.take k) 1 (Nat.le_refl _) (Nat.le_refl _)
  rw [List.length_take, List.length_take] at h1
  unfold sgD
  omega
/-- A row whose elements are told by a function. -/
def fnRow (n : Nat) (f : Nat → Nat) : List Value := (List.range n).map fun q => .int .i64 (f q)
theorem fnRow_get {n : Nat} {f : Nat → Nat} {q : Nat} (h : q < n) : (fnRow n f)[q]? = some (.int .i64 (f q)) := by rw [fnRow, List.getElem?_map, List.getElem?_range h]; rfl
theorem fnRow_eq {n : Nat} {f f' : Nat → Nat} (h : ∀ q, q < n → f q = f' q) : fnRow n f = fnRow n f' := List.map_congr_left (fun q hq => by rw [h q (List.mem_range.1 hq)])
theorem fnRow_set {n : Nat} {f : Nat → Nat} {j v : Nat} : (fnRow n f).set j (.int .i64 v) = fnRow n (fun q => if q = j then v else f q) := by
  apply List.ext_getElem?
  intro q
  rw [List.getElem?_set]
  by_cases hq : q < n
  · rw [fnRow_get hq, fnRow_get hq]
    by_cases e : j = q
    · subst e
      rw [if_pos rfl, if_pos (by simp [fnRow]; exact hq), if_pos rfl]
    · rw [if_neg e, if_neg (fun h => e h.symm)]
  · have hl : (fnRow n f).length = n := by simp [fnRow]
    have hl2 : (fnRow n (fun q => if q = j then v else f q)).length = n := by simp [fnRow]
    rw [List.getElem?_eq_none (by omega : (fnRow n f).length ≤ q), List.getElem?_eq_none (by omega : (fnRow n (fun q => if q = j then v else f q)).length ≤ q)]
    split
    · split
      · next h => rw [hl] at h; omega
      · rfl
    · rfl
theorem str_index (s : Bytes) {i : Nat} (hi : i < s.length) (w : World) : (Instr.index 9 (.string (B s)) (.int .i64 i)).run Tryz.prog w = .ok (.int .u8 (s[i]).toNat) w := by
  have hs : (B s).size = s.length := B_size s
  rw [run_index_string w _ _ _ _ Tryz.underlying9, dif_pos (by omega)]
  have e : (B s)[((i : Int)).toNat]'(by rw [hs]; omega) = s[i] := by
    have h2 := bs_get (B s) i (by omega)
    rw [bs_B, List.getElem?_eq_getElem hi] at h2
    simpa using (Option.some.inj h2).symm
  rw [e]
/-- The row while the next one is made out of it. -/
def mixD (s h : Bytes) (i k : Nat) : List Value := fnRow (h.length + 1) (fun q => if q ≤ k then sgD s h (i + 1) q else sgD s h i q)
set_option maxRecDepth 100000 in
set_option maxHeartbeats 4000000 in
theorem ref_changes (s h : Bytes) (w : World) (ls : s.length ≤ 5) (lh : h.length ≤ 5) : Calls Tryz.prog 95 #[.string (B s), .string (B h)] w fun e w' => e = .returned (.int .i64 (lc signC s h : Nat)) ∧ New w w' := by
  have hmk := make_ints (h.length + 1) (by omega)
  push_cast at hmk
  have HZ := Lib.hid (RowIs.zeros w 3 (h.length + 1) (.int .i64 0))
  have HN := Lib.hid ((New.refl w).alloc (.cells (Array.replicate (h.length + 1) (Value.int .i64 0)) 3))
  have HXS := Lib.hid (fun (i : Nat) (hi : i < s.length) => str_index s hi)
  have HXH := Lib.hid (fun (k : Nat) (hk : k < h.length) => str_index h hk)
  have hs1 : (B s).size = s.length := B_size s
  have hs2 : (B h).size = h.length := B_size h
  generalize B s = S at *
  generalize B h = H at *
  have i0 : IntKind.i64.wrap ((h.length : Int) + 1) = (h.length : Int) + 1 := IntWalk.i64_in _ (by omega)
  go_enter Tryz.func95, Tryz.ntmps95
  go_wp2_with fail
  generalize hW : w.alloc (.cells (Array.replicate (h.length + 1) (Value.int .i64 0)) 3) = W at *
  clear hW hmk
  have HF0 : Hid (RowIs W w.heap.size 3 (fnRow (h.length + 1) (fun q => if q < 0 then q else 0))) := Lib.hid (by
    have h1 := HZ.out
    have e1 : List.replicate (h.length + 1) (Value.int .i64 0) = fnRow (h.length + 1) (fun q => if q < 0 then q else 0) := by
      apply List.ext_getElem?
      intro q
      by_cases hq : q < h.length + 1
      · rw [fnRow_get hq, List.getElem?_replicate, if_pos hq, if_neg (Nat.not_lt_zero _)]
        rfl
      · rw [List.getElem?_eq_none (by simp; omega), List.getElem?_eq_none (by simp [fnRow]; omega)]
    rw [e1] at h1
    exact h1)
  clear HZ
  go_loopw [6] (fun s6 wr => ∃ k : Nat, k ≤ h.length + 1 ∧ s6 = .int .i64 k ∧ RowIs wr w.heap.size 3 (fnRow (h.length + 1) (fun q => if q < k then q else 0)) ∧ New w wr) (fun k _ => h.length + 1 - (intOf k).toNat)
  case atStart => exact ⟨0, Nat.zero_le _, rfl, HF0.out, HN.out⟩
  case round =>
    obtain ⟨k, hk, rfl, hr, hn⟩ := hrel
    have HR := Lib.hid hr
    have HNK := Lib.hid hn
    clear hr hn
    by_cases hlt : k < h.length + 1
    · have c0 := HR.out.cell (fnRow_get hlt)
      have f0 := HR.out.free k
      have i1 : (k : Int) ≤ (h.length : Int) := by omega
      have i2 : (k : Int) < (h.length : Int) + 1 := by omega
      have i3 : (0 : Int) ≤ (k : Int) := by omega
      have HP : Hid (RowIs (wr.setCell ⟨w.heap.size, k, none⟩ (.int .i64 k)) w.heap.size 3 (fnRow (h.length + 1) (fun q => if q < k + 1 then q else 0))) := Lib.hid (by
        have h1 := HR.out.put k (.int .i64 k)
        rw [fnRow_set] at h1
        rw [fnRow_eq (f' := fun q => if q < k + 1 then q else 0) (fun q _ => by by_cases e : q = k <;> by_cases e2 : q < k <;> simp [e, e2] <;> omega)] at h1
        exact h1)
      have HNP := Lib.hid (HNK.out.setCell (p := ⟨w.heap.size, k, none⟩) (Nat.le_refl _) (.int .i64 k))
      go_wp2_with fail
      refine ⟨⟨k + 1, by omega, by go_num, HP.out, HNP.out⟩, by simp [intOf]; omega⟩
    · obtain rfl : k = h.length + 1 := by omega
      have i1 : ¬ (((h.length + 1 : Nat) : Int) ≤ (h.length : Int)) := by omega
      have HR0 : Hid (RowIs wr w.heap.size 3 (fnRow (h.length + 1) (sgD s h 0))) := Lib.hid (by
        have h1 := HR.out
        rw [fnRow_eq (f' := sgD s h 0) (fun q hq => by rw [if_pos hq, sgD_zero s h (by omega)])] at h1
        exact h1)
      clear HR
      go_wp2_with fail
      go_loopw [7] (fun s7 wx => ∃ i : Nat, i ≤ s.length ∧ s7 = .int .i64 i ∧ RowIs wx w.heap.size 3 (fnRow (h.length + 1) (sgD s h i)) ∧ New w wx) (fun i _ => s.length - (intOf i).toNat)
      case atStart => exact ⟨0, Nat.zero_le _, rfl, HR0.out, HNK.out⟩
      case round =>
        obtain ⟨i, hi, rfl, hr, hn⟩ := hrel
        have HR := Lib.hid hr
        have HNI := Lib.hid hn
        clear hr hn
        by_cases hlt : i < s.length
        · have c0 := HR.out.cell (fnRow_get (show 0 < h.length + 1 by omega))
          have f0 := HR.out.free 0
          have i2 : (i : Int) < (s.length : Int) := by omega
          have i3 : IntKind.i64.wrap ((i : Int) + 1) = (i : Int) + 1 := IntWalk.i64_in _ (by omega)
          have i4 : (0 : Int) < (h.length : Int) + 1 := by omega
          have HP : Hid (RowIs (wr.setCell ⟨w.heap.size, 0, none⟩ (.int .i64 ((i : Int) + 1))) w.heap.size 3 (mixD s h i 0)) := Lib.hid (by
            have h1 := HR.out.put 0 (.int .i64 ((i + 1 : Nat) : Int))
            rw [fnRow_set] at h1
            rw [fnRow_eq (f' := fun q => if q ≤ 0 then sgD s h (i + 1) q else sgD s h i q) (fun q _ => by
              by_cases e : q = 0
              · subst e; rw [if_pos rfl, if_pos (Nat.le_refl _), sgD_left s h (by omega)]
              · rw [if_neg e, if_neg (by omega)])] at h1
            push_cast at h1
            exact h1)
          have HNP := Lib.hid (HNI.out.setCell (p := ⟨w.heap.size, 0, none⟩) (Nat.le_refl _) (.int .i64 ((i : Int) + 1)))
          go_wp2_with fail
          generalize wr.setCell ⟨w.heap.size, 0, none⟩ (.int .i64 ((i : Int) + 1)) = w2 at *
          clear HR HNI c0 f0
          go_loopw [9, 8] (fun s9 s8 wy => ∃ k : Nat, k ≤ h.length ∧ s9 = .int .i64 k ∧ s8 = .int .i64 (sgD s h i k : Nat) ∧ RowIs wy w.heap.size 3 (mixD s h i k) ∧ New w wy) (fun k _ _ => h.length - (intOf k).toNat)
          case atStart => exact ⟨0, Nat.zero_le _, rfl, rfl, HP.out, HNP.out⟩
          case round =>
            obtain ⟨k, hk, rfl, rfl, hr, hn⟩ := hrel
            have HRY := Lib.hid hr
            have HNY := Lib.hid hn
            clear hr hn
            by_cases hkt : k < h.length
            · obtain ⟨r, hrk⟩ : ∃ r, r = k + 1 := ⟨_, rfl⟩
              have hgk : (mixD s h i k)[k]? = some (.int .i64 (sgD s h (i + 1) k : Nat)) := by rw [mixD, fnRow_get (by omega), if_pos (Nat.le_refl _)]
              have hgk1 : (mixD s h i k)[r]? = some (.int .i64 (sgD s h i r : Nat)) := by rw [mixD, fnRow_get (by omega), if_neg (by omega)]
              have hstp := sgD_step s h hlt hkt
              rw [← hrk] at hstp
              have b1 := sgD_le s h i k
              have b2 := sgD_le s h i r
              have b3 := sgD_le s h (i + 1) k
              have HST : Hid (∀ W' z, z = sgD s h (i + 1) r → RowIs W' w.heap.size 3 (mixD s h i k) → RowIs (W'.setCell ⟨w.heap.size, r, none⟩ (.int .i64 (z : Nat))) w.heap.size 3 (mixD s h i r)) := Lib.hid (fun W' z hz hW' => by
                have h1 := hW'.put r (.int .i64 (z : Nat))
                rw [mixD, fnRow_set] at h1
                rw [fnRow_eq (f' := fun q => if q ≤ r then sgD s h (i + 1) q else sgD s h i q) (fun q _ => by
                  by_cases e : q = r
                  · subst e; rw [if_pos rfl, if_pos (Nat.le_refl _), hz]
                  · rw [if_neg e]
                    by_cases e2 : q ≤ k
                    · rw [if_pos e2, if_pos (by omega)]
                    · rw [if_neg e2, if_neg (by omega)])] at h1
                exact h1)
              have hx1 := HXS.out i hlt
              have hx2 := HXH.out k hkt
              have n1 : IntKind.i64.wrap ((k : Int) + 1) = (r : Int) := by rw [IntWalk.i64_in _ (by omega)]; omega
              have p1 : (k : Int) < (h.length : Int) := by omega
              have p2 : (0 : Int) ≤ (k : Int) := by omega
              have p3 : (r : Int) < (h.length : Int) + 1 := by omega
              have p4 : (k : Int) < (h.length : Int) + 1 := by omega
              have p5 : r < h.length + 1 := by omega
              have p6 : k < h.length + 1 := by omega
              have p7 : (0 : Int) ≤ (r : Int) := by omega
              have n2 : IntKind.i64.wrap ((sgD s h i k : Nat) + 1 : Int) = (sgD s h i k : Nat) + 1 := IntWalk.i64_in _ (by omega)
              have n3 : IntKind.i64.wrap ((sgD s h i r : Nat) + 1 : Int) = (sgD s h i r : Nat) + 1 := IntWalk.i64_in _ (by omega)
              have n4 : IntKind.i64.wrap ((sgD s h (i + 1) k : Nat) + 1 : Int) = (sgD s h (i + 1) k : Nat) + 1 := IntWalk.i64_in _ (by omega)
              have cK := HRY.out.cell hgk
              have cK1 := HRY.out.cell hgk1
              have fK1 := HRY.out.free r
              have HRK := Lib.hid hrk
              clear b1 b2 b3 hrk
              by_cases heq : s[i] = h[k]
              · have he2 : ((s[i]).toNat : Int) = ((h[k]).toNat : Int) := by rw [heq]
                rw [if_pos heq, Nat.add_zero] at hstp
                have HSP := Lib.hid hstp
                clear hstp heq
                generalize (s[i]).toNat = u1 at *
                generalize (h[k]).toNat = u2 at *
                have he3 : ((u1 : Int) == (u2 : Int)) = true := by rw [beq_iff_eq]; exact he2
                have he4 : ((u1 : Int) != (u2 : Int)) = false := by rw [bne, he3]; rfl
                clear he2
                go_wp2_with fail
                go_quiet (fail)
                have R3 := Lib.hid (HRY.out.keep ((New.refl wr).drewN nq))
                have N3 := Lib.hid (HNY.out.trans ((New.refl wr).drewN nq))
                generalize wr.drewN nq = w3 at *
                clear cK cK1 fK1
                have cK := R3.out.cell hgk
                have cK1 := R3.out.cell hgk1
                have fK1 := R3.out.free r
                go_wp2_with fail
                clear cK cK1 fK1
                have cK := R3.out.cell hgk
                have cK1 := R3.out.cell hgk1
                have fK1 := R3.out.free r
                go_still_tail 18, (by kernel_rfl)
                change wpList _ _ _ _ _ w3.drew
                have R4 := Lib.hid (R3.out.keep (New.refl w3).drew)
                have N4 := Lib.hid (N3.out.trans (New.refl w3).drew)
                generalize w3.drew = w4 at *
                clear cK cK1 fK1
                have cK1 := R4.out.cell hgk1
                have fK1 := R4.out.free r
                go_wp2_with fail
                have hkr := HRK.out
                have hsp := HSP.out
                refine ⟨⟨r, by omega, rfl, rfl, ?_, N4.out.setCell (p := ⟨w.heap.size, r, none⟩) (Nat.le_refl _) _⟩, by simp [intOf]; omega⟩
                have hq := HST.out w4 (sgD s h (i + 1) r) rfl R4.out
                have hz : (min ((sgD s h i k : Nat) : Int) (min ((sgD s h (i + 1) k : Nat) : Int) ((sgD s h i r : Nat) : Int) + 1)) = ((sgD s h (i + 1) r : Nat) : Int) := by omega
                rw [hz]
                exact hq
              · have he2 : ¬ (((s[i]).toNat : Int) = ((h[k]).toNat : Int)) := fun h => heq (UInt8.toNat_inj.1 (by omega))
                rw [if_neg heq] at hstp
                have HSP := Lib.hid hstp
                clear hstp heq
                generalize (s[i]).toNat = u1 at *
                generalize (h[k]).toNat = u2 at *
                have he3 : ((u1 : Int) == (u2 : Int)) = false := by rw [beq_eq_false_iff_ne]; exact he2
                have he4 : ((u1 : Int) != (u2 : Int)) = true := by rw [bne, he3]; rfl
                clear he2
                go_wp2_with fail
                go_quiet (fail)
                have R3 := Lib.hid (HRY.out.keep ((New.refl wr).drewN nq))
                have N3 := Lib.hid (HNY.out.trans ((New.refl wr).drewN nq))
                generalize wr.drewN nq = w3 at *
                clear cK cK1 fK1
                have cK := R3.out.cell hgk
                have cK1 := R3.out.cell hgk1
                have fK1 := R3.out.free r
                go_wp2_with fail
                clear cK cK1 fK1
                have cK := R3.out.cell hgk
                have cK1 := R3.out.cell hgk1
                have fK1 := R3.out.free r
                go_still_tail 18, (by kernel_rfl)
                change wpList _ _ _ _ _ w3.drew
                have R4 := Lib.hid (R3.out.keep (New.refl w3).drew)
                have N4 := Lib.hid (N3.out.trans (New.refl w3).drew)
                generalize w3.drew = w4 at *
                clear cK cK1 fK1
                have cK1 := R4.out.cell hgk1
                have fK1 := R4.out.free r
                go_wp2_with fail
                have hkr := HRK.out
                have hsp := HSP.out
                refine ⟨⟨r, by omega, rfl, rfl, ?_, N4.out.setCell (p := ⟨w.heap.size, r, none⟩) (Nat.le_refl _) _⟩, by simp [intOf]; omega⟩
                have hq := HST.out w4 (sgD s h (i + 1) r) rfl R4.out
                have hz : (min ((sgD s h i k : Nat) : Int) (min ((sgD s h (i + 1) k : Nat) : Int) ((sgD s h i r : Nat) : Int)) + 1) = ((sgD s h (i + 1) r : Nat) : Int) := by omega
                rw [hz]
                exact hq
            · obtain rfl : k = h.length := by omega
              have HRE : Hid (RowIs wr w.heap.size 3 (fnRow (h.length + 1) (sgD s h (i + 1)))) := Lib.hid (by
                have h1 := HRY.out
                rw [mixD, fnRow_eq (f' := sgD s h (i + 1)) (fun q hq => by rw [if_pos (by omega)])] at h1
                exact h1)
              go_wp2_with fail
              refine ⟨⟨i + 1, by omega, by go_num, HRE.out, HNY.out⟩, by simp [intOf]; omega⟩
        · obtain rfl : i = s.length := by omega
          have c0 := HR.out.cell (fnRow_get (show h.length < h.length + 1 by omega))
          rw [sgD_end] at c0
          have i2 : (h.length : Int) < (h.length : Int) + 1 := by omega
          have i3 : (0 : Int) ≤ (h.length : Int) := by omega
          go_wp2_with fail
          go_ret
          exact ⟨rfl, HNI.out⟩
/-- The number of a mode. -/
def mdI : Md → Int
  | .morse => 1
  | .voice => 2
  | .data => 3
set_option maxRecDepth 100000 in
set_option maxHeartbeats 2000000 in
theorem ref_swap (m : Md) (g i k : Nat) (w : World) (hi : i < 37) (hk : k < 37) (hr : RowIs w g 9 (codesL.map strV)) : Calls Tryz.prog 58 #[.slice (some ⟨g, 0, none⟩) 37 37, .int .i64 (mdI m), .int .i64 i, .int .i64 k] w fun e w' => e = .returned (.int .i64 ((mdC famsL m).sw i k : Nat)) ∧ New w w' := by
  by_cases hik : i = k
  · subst hik
    rw [mdC_self]
    generalize mdI m = md
    go_enter Tryz.func58, Tryz.ntmps58
    go_wp2_with fail
    go_ret
    exact ⟨rfl, New.refl _⟩
  · rw [mdC_ne famsL m hik]
    have hik2 : ((i : Int) == (k : Int)) = false := by rw [beq_eq_false_iff_ne]; omega
    have i1 : (i : Int) < 37 := by omega
    have i2 : (0 : Int) ≤ (i : Int) := by omega
    have k1 : (k : Int) < 37 := by omega
    have k2 : (0 : Int) ≤ (k : Int) := by omega
    clear hik
    cases m with
    | morse =>
      have HR := Lib.hid hr
      have li := code_len hi
      have lk := code_len hk
      have HC : Hid (∀ w', New w w' → Calls Tryz.prog 95 #[.string (B (codeOf i)), .string (B (codeOf k))] w' fun e w'' => e = .returned (.int .i64 (lc signC (codeOf i) (codeOf k) : Nat)) ∧ New w' w'') := Lib.hid (fun w' _ => ref_changes _ _ w' li lk)
      have HD : Hid (∀ w', New w w' → New w w' ∧ w'.cell? ⟨g, i, none⟩ = some (.string (B (codeOf i))) ∧ w'.cell? ⟨g, k, none⟩ = some (.string (B (codeOf k)))) := Lib.hid (fun w' hn => ⟨hn, codes_cell (HR.out.keep hn) hi, codes_cell (HR.out.keep hn) hk⟩)
      obtain ⟨-, c0, c1⟩ := HD.out w (New.refl _)
      clear hr li lk
      unfold mdI mdSw
      go_enter Tryz.func58, Tryz.ntmps58
      go_wp2_with fail
      go_region_held3 (fun w' => New w w' ∧ w'.cell? ⟨g, i, none⟩ = some (.string (B (codeOf i))) ∧ w'.cell? ⟨g, k, none⟩ = some (.string (B (codeOf k))))
        (first | exact HD.out _ (New.refl _).drew | exact HD.out _ (New.trans (by first | assumption | exact (by assumption : New _ _ ∧ _).1) (by assumption)))
        (first | (go_at_call 95; refine (HC.out _ (by first | assumption | exact (New.refl _).drew | exact (by assumption : New _ _ ∧ _).1)).mono ?_; rintro e w' ⟨rfl, hb⟩))
      have hn3 : New w w' := (by assumption : New w w' ∧ _).1
      have HN3 := Lib.hid hn3
      clear hn3
      go_wp2_with fail
      go_ret
      exact ⟨rfl, HN3.out⟩
    | data =>
      unfold mdI mdSw
      go_enter Tryz.func58, Tryz.ntmps58
      go_wp2_with fail
      go_ret
      exact ⟨rfl, New.refl _⟩
    | voice =>
      have f1 := fam_index hi
      have f2 := fam_index hk
      have e1 : mdSw famsL .voice i k = if famOf famsL i = famOf famsL k then 1 else 3 := rfl
      rw [e1]
      unfold mdI
      clear e1
      by_cases hf : famOf famsL i = famOf famsL k
      · rw [if_pos hf]
        have hf2 : (((49 + famOf famsL i : Nat) : Int) == ((49 + famOf famsL k : Nat) : Int)) = true := by rw [beq_iff_eq]; omega
        rw [hf] at f1 hf2
        clear hf
        generalize 49 + famOf famsL k = z at *
        go_enter Tryz.func58, Tryz.ntmps58
        go_wp2_with fail
        go_quiet (fail)
        go_wp2_with fail
        go_ret
        exact ⟨rfl, (New.refl _).drewN _⟩
      · rw [if_neg hf]
        have hf2 : (((49 + famOf famsL i : Nat) : Int) == ((49 + famOf famsL k : Nat) : Int)) = false := by rw [beq_eq_false_iff_ne]; omega
        clear hf
        generalize 49 + famOf famsL k = z at *
        generalize 49 + famOf famsL i = y at *
        go_enter Tryz.func58, Tryz.ntmps58
        go_wp2_with fail
        go_quiet (fail)
        go_wp2_with fail
        go_ret
        exact ⟨rfl, (New.refl _).drewN _⟩
set_option maxHeartbeats 400000 in
theorem ref_miss (m : Md) (w : World) : Calls Tryz.prog 59 #[.int .i64 (mdI m)] w fun e w' => e = .returned (.int .i64 (mdMs m : Nat)) ∧ w = w' := by
  cases m <;> unfold mdI mdMs
  all_goals
    go_enter Tryz.func59, Tryz.ntmps59
    go_wp2_with fail
    go_ret
    exact ⟨rfl, rfl⟩
set_option maxHeartbeats 400000 in
theorem ref_extra (m : Md) (w : World) : Calls Tryz.prog 60 #[.int .i64 (mdI m)] w fun e w' => e = .returned (.int .i64 (mdEx m : Nat)) ∧ w = w' := by
  cases m <;> unfold mdI mdEx
  all_goals
    go_enter Tryz.func60, Tryz.ntmps60
    go_wp2_with fail
    go_ret
    exact ⟨rfl, rfl⟩
end Go.Proofs.YthodoabppkeidaaGreatDoor
