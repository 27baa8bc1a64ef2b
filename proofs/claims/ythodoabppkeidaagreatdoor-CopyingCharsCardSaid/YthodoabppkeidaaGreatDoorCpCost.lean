/-
  cells, cost, Cost of the program: the least cost of hearing one text for another one. Condition: the tables lie in memory; texts of at most 1000000 bytes.
-/
import Derived.Test.YthodoabppkeidaaGreatDoorCpHear
namespace Go.Proofs.YthodoabppkeidaaGreatDoor
open Go Go.RowKit
theorem info_int : (Tryz.prog.info? 3).map (fun i => (i.zero, i.size, i.bytes)) = some (some (.int .i64 0), 1, 8) := by kernel_rfl
theorem make_ints (n : Nat) (hn : n ≤ 1000000) (w : World) :
    (Instr.makeSlice 25 (.int .i64 n) (.int .i64 n)).run Tryz.prog w = .ok (.slice (some ⟨w.heap.size, 0, none⟩) n n) (w.alloc (.cells (Array.replicate n (Value.int .i64 0)) 3)) :=
  make_row Tryz.underlying25 info_int rfl (by omega) n hn w
/-- A hearing as the value that methods get: its two texts as slices. -/
def HearAt (w : World) (m : Md) (s h : List Nat) (v : Value) : Prop :=
  ∃ vs vh, v = .agg #[.iface (medT m) (.agg #[]), vs, vh] ∧ SlAt w vs (keysV s) ∧ SlAt w vh (keysV h) ∧ (∀ k ∈ s, k < 37) ∧ (∀ k ∈ h, k < 37) ∧ s.length ≤ 64 ∧ h.length ≤ 64
theorem HearAt.keep {w w' : World} {m : Md} {s h : List Nat} {v : Value} (k : New w w') (x : HearAt w m s h v) : HearAt w' m s h v := by
  obtain ⟨vs, vh, e, h1, h2, h3⟩ := x
  exact ⟨vs, vh, e, h1.keep k, h2.keep k, h3⟩
/-- The number of the table's cells. -/
def tabN (s h : List Nat) : Nat := (s.length + 1) * (h.length + 1)
theorem tabN_le {s h : List Nat} (hs : s.length ≤ 64) (hh : h.length ≤ 64) : tabN s h ≤ 4225 := Nat.mul_le_mul (show s.length + 1 ≤ 65 by omega) (show h.length + 1 ≤ 65 by omega)
set_option maxHeartbeats 400000 in
theorem cp_cells (m : Md) (A1 A2 : Option Addr) (n1 n2 c1 c2 : Nat) (w : World) (h1 : n1 ≤ 64) (h2 : n2 ≤ 64) :
    Calls Tryz.prog 97 #[.agg #[.iface (medT m) (.agg #[]), .slice A1 n1 c1, .slice A2 n2 c2]] w fun e w' =>
      e = .returned (.slice (some ⟨w.heap.size + 1, 0, none⟩) ((n1 + 1) * (n2 + 1)) ((n1 + 1) * (n2 + 1))) ∧ (RowIs w' (w.heap.size + 1) 3 (List.replicate ((n1 + 1) * (n2 + 1)) (.int .i64 0)) ∧ New w w') := by
  have hN : (n1 + 1) * (n2 + 1) ≤ 4225 := Nat.mul_le_mul (show n1 + 1 ≤ 65 by omega) (show n2 + 1 ≤ 65 by omega)
  have hmk := make_ints ((n1 + 1) * (n2 + 1)) (by omega)
  have hmul : ((n1 : Int) + 1) * ((n2 : Int) + 1) = (((n1 + 1) * (n2 + 1) : Nat) : Int) := by push_cast; rfl
  have HZ := Lib.hid (RowIs.zeros (w.alloc (.cells #[.iface (medT m) (.agg #[]), .slice A1 n1 c1, .slice A2 n2 c2] 89)) 3 ((n1 + 1) * (n2 + 1)) (.int .i64 0))
  generalize medT m = tm at *
  generalize (n1 + 1) * (n2 + 1) = N at *
  go_enter Tryz.func97, Tryz.ntmps97
  go_wp2_with fail
  go_ret
  refine ⟨rfl, ?_, ((New.refl w).alloc _).alloc _⟩
  have := HZ.out
  rw [World.size_alloc] at this
  exact this
set_option maxRecDepth 100000 in
set_option maxHeartbeats 1000000 in
theorem cp_cost (F : List Bytes) (m : Md) (s h : List Nat) (v : Value) (w : World) (hT : TabAt w F) (hx : HearAt w m s h v) :
    Calls Tryz.prog 62 #[v] w fun e w' => e = .returned (.int .i64 (lc (mdC F m) s h : Nat)) ∧ New w w' := by
  obtain ⟨vs, vh, rfl, hs, hh, ks, kh, ls, lh⟩ := hx
  have HT := Lib.hid hT
  have HS := Lib.hid hs
  have HH := Lib.hid hh
  obtain ⟨A1, c1, rfl, hs1, hs2, hs3⟩ := hs
  obtain ⟨A2, c2, rfl, hh1, hh2, hh3⟩ := hh
  rw [keysV_len] at hs1 hs3 HS ⊢
  rw [keysV_len] at hh1 hh3 HH ⊢
  clear hT hs3 hh3
  have hr := RowIs.new w 89 [.iface (medT m) (.agg #[]), .slice A1 s.length c1, .slice A2 h.length c2]
  have HB := Lib.hid hr
  have c0 := hr.cell (i := 0) rfl
  have k1 := hr.cell (i := 1) rfl
  have k2 := hr.cell (i := 2) rfl
  have HC := Lib.hid (cp_cells m A1 A2 s.length h.length c1 c2)
  have HF := Lib.hid (cp_fill_key F m)
  have hN := tabN_le ls lh
  have HNN : Hid ((s.length + 1) * (h.length + 1) = tabN s h) := Lib.hid rfl
  have HKS := Lib.hid ks
  have HKH := Lib.hid kh
  clear hr ks kh
  generalize htm : medT m = tm at *
  go_enter Tryz.func62, Tryz.ntmps62
  go_wp2_with fail
  have hW : ∀ w', New (w.alloc (.cells #[.iface tm (.agg #[]), .slice A1 s.length c1, .slice A2 h.length c2] 89)) w' → New (w.alloc (.cells #[.iface tm (.agg #[]), .slice A1 s.length c1, .slice A2 h.length c2] 89)) w' ∧
      w'.cell? ⟨w.heap.size, 0, none⟩ = some (.iface tm (.agg #[])) ∧ w'.cell? ⟨w.heap.size, 1, none⟩ = some (.slice A1 s.length c1) ∧ w'.cell? ⟨w.heap.size, 2, none⟩ = some (.slice A2 h.length c2) :=
    fun w' hn => ⟨hn, (HB.out.keep hn).cell rfl, (HB.out.keep hn).cell rfl, (HB.out.keep hn).cell rfl⟩
  have HW := Lib.hid hW
  clear hW c0 k1 k2
  generalize hWW : w.alloc (.cells #[.iface tm (.agg #[]), .slice A1 s.length c1, .slice A2 h.length c2] 89) = W at *
  have HNW : Hid (New w W) := Lib.hid (by rw [← hWW]; exact (New.refl w).alloc _)
  clear hWW
  have HFL : Hid (∀ w', New W w' → RowIs w' (W.heap.size + 1) 3 (List.replicate ((s.length + 1) * (h.length + 1)) (.int .i64 0)) →
      Calls Tryz.prog 96 #[.slice (some ⟨W.heap.size + 1, 0, none⟩) ((s.length + 1) * (h.length + 1)) ((s.length + 1) * (h.length + 1)), .slice A1 s.length c1, .slice A2 h.length c2, .iface tm (.agg #[])] w' fun e w'' =>
        e = .returned (.int .i64 (lc (mdC F m) s h : Nat)) ∧ New W w'') := Lib.hid (fun w' hn hrow => by
    have hT2 := HT.out.keep (HNW.out.trans hn)
    have l1 := HT.out.lt
    have l2 := HNW.out.size
    have o1 := HS.out.off (HNW.out.trans hn) (show w.heap.size ≤ W.heap.size + 1 by omega)
    have o2 := HH.out.off (HNW.out.trans hn) (show w.heap.size ≤ W.heap.size + 1 by omega)
    have hc := HF.out (W.heap.size + 1) _ ((s.length + 1) * (h.length + 1)) ((s.length + 1) * (h.length + 1)) s h _ _ _ w' hT2 (by omega) (by omega) HKS.out HKH.out hrow (by rw [List.length_replicate]) (Nat.le_refl _) (by rw [HNN.out]; omega) (Nat.le_refl _) o1 o2
    exact hc.mono fun e w'' ⟨h1, h2, _⟩ => ⟨h1, Upd.new hn (by omega) h2⟩)
  clear hN htm
  go_region_held3 (fun w' => New W w' ∧ w'.cell? ⟨w.heap.size, 0, none⟩ = some (.iface tm (.agg #[])) ∧ w'.cell? ⟨w.heap.size, 1, none⟩ = some (.slice A1 s.length c1) ∧ w'.cell? ⟨w.heap.size, 2, none⟩ = some (.slice A2 h.length c2))
    (first | exact HW.out _ (by assumption) | exact HW.out _ (New.refl _).drew | exact HW.out _ (New.trans (New.refl _).drew (by assumption)) | exact HW.out _ (New.trans (by first | assumption | exact (by assumption : New _ _ ∧ _).1) (by assumption)))
    (first | (go_at_call 97; refine (HC.out _ ls lh).mono ?_; rintro e w' ⟨rfl, hrow, hb⟩) | (go_at_call 96; refine (HFL.out _ (by first | assumption | exact (by assumption : New _ _ ∧ _).1) (by assumption)).mono ?_; rintro e w'' ⟨rfl, hb2⟩))
  go_wp2_with fail
  go_ret
  have hn : New W w'' := by first | assumption | exact (by assumption : New _ w'' ∧ _).1
  exact ⟨rfl, HNW.out.trans hn⟩
/-- A hearing that newHearing has made. -/
theorem hear_made {w : World} {m : Md} {a b : List Nat} {g1 g2 : Nat} (h1 : RowIs w g1 66 (keysV a)) (h2 : RowIs w g2 66 (keysV b)) (ka : ∀ k ∈ a, k < 37) (kb : ∀ k ∈ b, k < 37) (la : a.length ≤ 64) (lb : b.length ≤ 64) :
    HearAt w m a b (.agg #[.iface (medT m) (.agg #[]), ksl g1 a.length, ksl g2 b.length]) := by
  have s1 := h1.slice (by rw [keysV_len]; omega)
  have s2 := h2.slice (by rw [keysV_len]; omega)
  rw [keysV_len] at s1 s2
  exact ⟨_, _, rfl, s1, s2, ka, kb, la, lb⟩
theorem lc_small {F : List Bytes} {m : Md} {a b : List Nat} (la : a.length ≤ 64) (lb : b.length ≤ 64) : lc (mdC F m) a b ≤ 1000 := by
  obtain ⟨-, h1, -, h2⟩ := md_small m
  have := lc_le (c := mdC F m) a b 3 h1 h2
  omega
set_option maxHeartbeats 400000 in
theorem cp_Cost_err (mode E : Int) (s h : Bytes) (w : World) (hE : (E != 0) = true) (hc : Calls Tryz.prog 61 #[.int .i64 mode, .string (B s), .string (B h)] w fun e w' => e = .returned (.tuple #[noHear, .int .i64 E]) ∧ New w w') :
    Calls Tryz.prog 24 #[.int .i64 mode, .string (B s), .string (B h)] w fun e w' => e = .returned (.tuple #[.int .i64 0, .int .i64 E]) ∧ New w w' := by
  have HC := Lib.hid hc
  clear hc
  unfold noHear at HC
  go_enter Tryz.func24, Tryz.ntmps24
  go_wp2_with fail
  refine HC.out.mono ?_
  rintro e w' ⟨rfl, h1⟩
  go_wp2_with fail
  go_ret2
  exact ⟨rfl, h1.alloc _⟩
set_option maxHeartbeats 400000 in
theorem cp_Cost_ok (F : List Bytes) (m : Md) (mode : Int) (s h : Bytes) (w : World) (hT : TabAt w F) (hm : mdOf mode = some m) {a b : List Nat} (ha : keysOf s = some a) (hb : keysOf h = some b) (ls : s.length ≤ 64) (lh : h.length ≤ 64) :
    Calls Tryz.prog 24 #[.int .i64 mode, .string (B s), .string (B h)] w fun e w' => e = .returned (.tuple #[.int .i64 (lc (mdC F m) a b : Nat), .int .i64 0]) ∧ New w w' := by
  have hc := cp_newHearing_ok m mode s h w hm ls lh ha hb
  have la : a.length ≤ 64 := by rw [keysOf_len ha]; exact ls
  have lb : b.length ≤ 64 := by rw [keysOf_len hb]; exact lh
  have HC := Lib.hid hc
  have HT := Lib.hid hT
  have HK := Lib.hid (And.intro (keysOf_lt ha) (keysOf_lt hb))
  clear hc hT hm ha hb
  unfold hearV at HC
  rw [medV_eq] at HC
  go_enter Tryz.func24, Tryz.ntmps24
  go_wp2_with fail
  refine HC.out.mono ?_
  rintro e w1 ⟨g1, g2, rfl, h1, r1, r2⟩
  have hx := hear_made (m := m) r1 r2 HK.out.1 HK.out.2 la lb
  unfold ksl at hx ⊢
  have HX := Lib.hid (hx.keep ((New.refl w1).alloc (.cells #[.iface (medT m) (.agg #[]), .slice (some ⟨g1, 0, none⟩) a.length a.length, .slice (some ⟨g2, 0, none⟩) b.length b.length] 89)))
  have HT2 := Lib.hid (HT.out.keep (h1.alloc (.cells #[.iface (medT m) (.agg #[]), .slice (some ⟨g1, 0, none⟩) a.length a.length, .slice (some ⟨g2, 0, none⟩) b.length b.length] 89)))
  clear hx r1 r2
  generalize htm : medT m = tm at *
  go_wp2_with fail
  refine (cp_cost F m a b _ _ HT2.out HX.out).mono ?_
  rintro e w2 ⟨rfl, h2⟩
  go_wp2_with fail
  go_ret2
  exact ⟨rfl, (h1.alloc _).trans h2⟩
/-- newHearing at a mode and two texts that it refuses. -/
theorem cp_newHearing_no (mode : Int) (s h : Bytes) (w : World) (hs : s.length ≤ 1000000) (hh : h.length ≤ 1000000) (he : hearE mode s h ≠ 0) :
    Calls Tryz.prog 61 #[.int .i64 mode, .string (B s), .string (B h)] w fun e w' => e = .returned (.tuple #[noHear, .int .i64 (hearE mode s h)]) ∧ New w w' := by
  cases hm : mdOf mode with
  | none =>
    have e : hearE mode s h = 40 := by unfold hearE; rw [if_pos hm]
    rw [e]
    exact cp_newHearing_mode mode (B s) (B h) w hm
  | some m =>
    by_cases hl : 64 < s.length ∨ 64 < h.length
    · have e : hearE mode s h = 2 := by unfold hearE; rw [hm, if_neg (by simp), if_pos hl]
      rw [e]
      exact cp_newHearing_long m mode s h w hm hs hh hl
    · by_cases hk : keysOf s = none ∨ keysOf h = none
      · have e : hearE mode s h = 41 := by unfold hearE; rw [hm, if_neg (by simp), if_neg hl, if_pos hk]
        rw [e]
        exact cp_newHearing_bad m mode s h w hm (by omega) (by omega) hk
      · exfalso
        apply he
        unfold hearE
        rw [hm, if_neg (by simp), if_neg hl, if_neg hk]
/-- The cost, or 0 with an error. -/
def costC (F : List Bytes) (mode : Int) (s h : Bytes) : Nat := if hearE mode s h = 0 then costV F mode s h else 0
theorem costC_ok {F : List Bytes} {mode : Int} {s h : Bytes} {m : Md} {a b : List Nat} (he : hearE mode s h = 0) (hm : mdOf mode = some m) (ha : keysOf s = some a) (hb : keysOf h = some b) : costC F mode s h = lc (mdC F m) a b := by
  rw [costC, if_pos he, costV, hm, ha, hb]
theorem cp_Cost (F : List Bytes) (mode : Int) (s h : Bytes) (w : World) (hT : TabAt w F) (hs : s.length ≤ 1000000) (hh : h.length ≤ 1000000) :
    Calls Tryz.prog 24 #[.int .i64 mode, .string (B s), .string (B h)] w fun e w' => e = .returned (.tuple #[.int .i64 (costC F mode s h : Nat), .int .i64 (hearE mode s h)]) ∧ New w w' := by
  by_cases he : hearE mode s h = 0
  · obtain ⟨m, a, b, hm, ha, hb, ls, lh⟩ := hearE_ok he
    have h1 := cp_Cost_ok F m mode s h w hT hm ha hb ls lh
    rw [costC_ok he hm ha hb, he]
    exact h1
  · have h1 := cp_Cost_err mode (hearE mode s h) s h w (by rw [bne_iff_ne]; exact he) (cp_newHearing_no mode s h w hs hh he)
    rw [costC, if_neg he]
    exact h1
end Go.Proofs.YthodoabppkeidaaGreatDoor
