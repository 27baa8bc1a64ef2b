/-
  The calls on bands (A1 to A3), of the program and of the specification: ValidBands answers 'vbB', Nearest 'near', BandOf 'bandOf', for every list in memory, whatever lies in it. No condition but that the list is in memory and a frequency is any int.
-/
import Derived.Test.YtkbdmdnahphkkaaGreatDoorProg
import Derived.Test.YtkbdmdnahphkkaaGreatDoorBase
import Derived.Deep.RegionHeld3
namespace Go.Proofs.YtkbdmdnahphkkaaGreatDoor
open Go.RowKit

def withinB (n lo hi : Int) : Bool := decide (lo ≤ n) && decide (n ≤ hi)
theorem withinB_t {n lo hi : Int} (h : lo ≤ n ∧ n ≤ hi) : withinB n lo hi = true := by simp [withinB, h]
theorem withinB_f {n lo hi : Int} (h : ¬(lo ≤ n ∧ n ≤ hi)) : withinB n lo hi = false := by simp [withinB]; omega
theorem withinB_iff {n lo hi : Int} : withinB n lo hi = true ↔ (lo ≤ n ∧ n ≤ hi) := by simp [withinB]

set_option maxHeartbeats 400000 in
theorem air_within (n lo hi : Int) (w : World) :
    Calls Tryz.prog 45 #[.int .i64 n, .int .i64 lo, .int .i64 hi] w fun e w' => e = .returned (.bool (withinB n lo hi)) ∧ w = w' := by
  go_enter Tryz.func45, Tryz.ntmps45
  go_wp2
  all_goals
    go_ret
    exact ⟨ret_bool (by simp [withinB]; omega), rfl⟩
set_option maxHeartbeats 400000 in
theorem ref_within (n lo hi : Int) (w : World) :
    Calls Tryz.prog 48 #[.int .i64 n, .int .i64 lo, .int .i64 hi] w fun e w' => e = .returned (.bool (withinB n lo hi)) ∧ w = w' := by
  go_enter Tryz.func48, Tryz.ntmps48
  go_wp2
  all_goals
    go_ret
    exact ⟨ret_bool (by simp [withinB]; omega), rfl⟩

structure Bd where
  id : Int
  lo : Int
  hi : Int
def vbGo : Int → Int → List Bd → Bool
  | _, _, [] => true
  | id, hi, b :: l => if b.id ≤ id ∨ 65535 < b.id ∨ b.lo ≤ hi ∨ b.hi < b.lo ∨ 10000000 < b.hi then false else vbGo b.id b.hi l
def vbB (l : List Bd) : Bool := decide (l.length ≤ 16) && vbGo 0 0 l
theorem vbGo_bad {id hi : Int} {b : Bd} {l : List Bd} (h : b.id ≤ id ∨ 65535 < b.id ∨ b.lo ≤ hi ∨ b.hi < b.lo ∨ 10000000 < b.hi) : vbGo id hi (b :: l) = false := by rw [vbGo, if_pos h]
theorem vbGo_ok {id hi : Int} {b : Bd} {l : List Bd} (h : ¬(b.id ≤ id ∨ 65535 < b.id ∨ b.lo ≤ hi ∨ b.hi < b.lo ∨ 10000000 < b.hi)) : vbGo id hi (b :: l) = vbGo b.id b.hi l := by rw [vbGo, if_neg h]

/-- A slice of bands in memory that reads as l. -/
def BandsAt (w : World) (A : Option Addr) (n : Nat) (l : List Bd) : Prop :=
  l.length = n ∧ (0 < n → ∃ b off, A = some ⟨b, off, none⟩ ∧ b < w.heap.size ∧ ∀ i (h : i < l.length),
    w.cell? ⟨b, off + i * 3, none⟩ = some (.int .i64 l[i].id) ∧ w.cell? ⟨b, off + i * 3 + 1, none⟩ = some (.int .i64 l[i].lo) ∧ w.cell? ⟨b, off + i * 3 + 2, none⟩ = some (.int .i64 l[i].hi))
theorem BandsAt.keep {w w' : World} {A : Option Addr} {n : Nat} {l : List Bd} (h : BandsAt w A n l) (k : New w w') : BandsAt w' A n l :=
  ⟨h.1, fun hn => by
    obtain ⟨b, off, e, hb, hc⟩ := h.2 hn
    refine ⟨b, off, e, Nat.lt_of_lt_of_le hb k.size, fun i hi => ?_⟩
    obtain ⟨c0, c1, c2⟩ := hc i hi
    exact ⟨(k.cell (p := ⟨b, off + i * 3, none⟩) hb).trans c0, (k.cell (p := ⟨b, off + i * 3 + 1, none⟩) hb).trans c1, (k.cell (p := ⟨b, off + i * 3 + 2, none⟩) hb).trans c2⟩⟩
theorem BandsAt.cells {w w' : World} {A : Option Addr} {n k : Nat} {l : List Bd} (h : BandsAt w A n l) (hn : New w w') (hk : k < n) :
    ∃ (b off : Nat) (id lo hi : Int), A = some ⟨b, off, none⟩ ∧ b < w.heap.size ∧ l.drop k = ⟨id, lo, hi⟩ :: l.drop (k + 1) ∧
      w'.cell? ⟨b, off + k * 3, none⟩ = some (.int .i64 id) ∧ w'.cell? ⟨b, off + k * 3 + 1, none⟩ = some (.int .i64 lo) ∧ w'.cell? ⟨b, off + k * 3 + 2, none⟩ = some (.int .i64 hi) := by
  obtain ⟨b, off, e, hb, hc⟩ := h.2 (by omega)
  have hl : k < l.length := by have := h.1; omega
  obtain ⟨c0, c1, c2⟩ := hc k hl
  exact ⟨b, off, l[k].id, l[k].lo, l[k].hi, e, hb, List.drop_eq_getElem_cons hl, (hn.cell (p := ⟨b, off + k * 3, none⟩) hb).trans c0, (hn.cell (p := ⟨b, off + k * 3 + 1, none⟩) hb).trans c1, (hn.cell (p := ⟨b, off + k * 3 + 2, none⟩) hb).trans c2⟩

set_option maxHeartbeats 400000 in
theorem air_ValidBands (A : Option Addr) (n c : Nat) (l : List Bd) (w : World) (hl : BandsAt w A n l) (hn : n ≤ 9223372036854775807) :
    Calls Tryz.prog 86 #[.slice A n c] w fun e w' => e = .returned (.bool (vbB l)) ∧ New w w' := by
  have hlen := hl.1
  by_cases h16 : 16 < n
  · go_enter Tryz.func86, Tryz.ntmps86
    go_wp2
    go_ret
    exact ⟨ret_bool (by simp [vbB]; omega), New.refl _⟩
  · go_enter Tryz.func86, Tryz.ntmps86
    go_wp2
    go_loopw [3, 4, 12] (fun x y i wr => ∃ (k : Nat) (id hi : Int), k ≤ n ∧ i = .int .i64 k ∧ x = .int .i64 id ∧ y = .int .i64 hi ∧ vbGo 0 0 l = vbGo id hi (l.drop k) ∧ New w wr) (fun _ _ i _ => n - (intOf i).toNat)
    case atStart => exact ⟨0, 0, 0, by omega, rfl, rfl, rfl, by simp, New.refl _⟩
    case round =>
      obtain ⟨k, id, hi, hk, rfl, rfl, rfl, hgo, hbel⟩ := hrel
      by_cases hlt : k < n
      · obtain ⟨b, off, bi, bl, bh, rfl, hb, hd, c0, c1, c2⟩ := hl.cells hbel hlt
        rw [hd] at hgo
        have HGO := Lib.hid hgo
        clear hgo hd hl
        go_wp2
        all_goals first
          | (go_ret
             refine ⟨ret_bool ?_, hbel.alloc _⟩
             rw [vbB, HGO.out, vbGo_bad]
             · simp
             · simp only; omega)
          | (go_quiet (fail)
             go_wp2
             go_roundw
             case rel =>
               refine ⟨k + 1, _, _, by omega, by go_num, rfl, rfl, ?_, (hbel.alloc _).drewN _⟩
               rw [HGO.out, vbGo_ok]
               simp only; omega
             case measure => simp [intOf]; omega)
      · go_wp2
        go_ret
        refine ⟨ret_bool ?_, hbel⟩
        rw [vbB, hgo, List.drop_eq_nil_of_le (by omega)]
        simp [vbGo]
        omega
def checkE (l : List Bd) (khz : Int) : Int := if vbB l = false then 11 else if withinB khz 1 10000000 = false then 1 else 0
set_option maxHeartbeats 400000 in
theorem air_checkKhz (A : Option Addr) (n c : Nat) (l : List Bd) (khz : Int) (w : World) (hl : BandsAt w A n l) (hn : n ≤ 9223372036854775807) :
    Calls Tryz.prog 57 #[.slice A n c, .int .i64 khz] w fun e w' => e = .returned (.int .i64 (checkE l khz)) ∧ New w w' := by
  go_enter Tryz.func57, Tryz.ntmps57
  go_wp2_with fail
  refine (air_ValidBands A n c l _ hl hn).mono ?_
  rintro e w1 ⟨rfl, h1⟩
  cases hv : vbB l
  · go_wp2
    go_ret
    exact ⟨ret_int (by simp [checkE, hv]), h1⟩
  · go_wp2_with fail
    refine (air_within _ _ _ _).mono ?_
    rintro e w1 ⟨rfl, rfl⟩
    cases hw : withinB khz 1 10000000
    · go_wp2
      go_ret
      exact ⟨ret_int (by simp [checkE, hv, hw]), h1⟩
    · go_wp2
      go_ret
      exact ⟨ret_int (by simp [checkE, hv, hw]), h1⟩
def distI (l h k : Int) : Int := max (max (l - k) (k - h)) 0
set_option maxHeartbeats 400000 in
theorem air_distance (i l u k : Int) (w : World) (hl : 0 ≤ l) (hl2 : l ≤ 10000000) (hh : 0 ≤ u) (hh2 : u ≤ 10000000) (hk : 0 ≤ k) (hk2 : k ≤ 10000000) :
    Calls Tryz.prog 58 #[.agg #[.int .i64 i, .int .i64 l, .int .i64 u], .int .i64 k] w fun e w' => e = .returned (.int .i64 (distI l u k)) ∧ New w w' := by
  go_enter Tryz.func58, Tryz.ntmps58
  go_wp2
  all_goals
    go_ret
    exact ⟨ret_int (by unfold distI; omega), (New.refl _).alloc _⟩

theorem vbGo_in : ∀ (l : List Bd) (id hi : Int), 0 ≤ id → 0 ≤ hi → vbGo id hi l = true → ∀ b ∈ l, 1 ≤ b.id ∧ b.id ≤ 65535 ∧ 1 ≤ b.lo ∧ b.lo ≤ b.hi ∧ b.hi ≤ 10000000
  | [], _, _, _, _, _, b, hb => by cases hb
  | a :: l, id, hi, h0, h1, h, b, hb => by
    rw [vbGo] at h
    split at h
    · cases h
    · rename_i hn
      rcases List.mem_cons.1 hb with rfl | hb
      · omega
      · exact vbGo_in l a.id a.hi (by omega) (by omega) h b hb
def bestGo (k : Int) : Bd → List Bd → Bd
  | b, [] => b
  | b, c :: l => bestGo k (if distI c.lo c.hi k < distI b.lo b.hi k then c else b) l
def nearV (l : List Bd) (k : Int) : Int × Int × Int :=
  if checkE l k = 0 then
    match l with
    | [] => (0, 0, 3)
    | b :: l => ((bestGo k b l).id, distI (bestGo k b l).lo (bestGo k b l).hi k, 0)
  else (0, 0, checkE l k)
theorem checkE_ok {l : List Bd} {k : Int} (h : checkE l k = 0) : vbB l = true ∧ 1 ≤ k ∧ k ≤ 10000000 := by
  unfold checkE at h
  split at h
  · cases h
  · split at h
    · cases h
    · rename_i h1 h2
      have := withinB_iff.1 (by simpa using h2 : withinB k 1 10000000 = true)
      exact ⟨by simpa using h1, this⟩
theorem vbB_in {l : List Bd} (h : vbB l = true) : ∀ b ∈ l, 1 ≤ b.id ∧ b.id ≤ 65535 ∧ 1 ≤ b.lo ∧ b.lo ≤ b.hi ∧ b.hi ≤ 10000000 := by
  simp only [vbB, Bool.and_eq_true] at h
  exact vbGo_in l 0 0 (by omega) (by omega) h.2
/-- What a band's fields are bounded by: what the walks ask. -/
def Bd.fit (b : Bd) : Prop := 0 ≤ b.lo ∧ b.lo ≤ 10000000 ∧ 0 ≤ b.hi ∧ b.hi ≤ 10000000
/-- Block g is a band's cells. -/
def BandIn (w : World) (g : Nat) (b : Bd) : Prop := w.heap[g]? = some (.cells #[.int .i64 b.id, .int .i64 b.lo, .int .i64 b.hi] 58 (0, 0))
theorem BandIn.new (w : World) (b : Bd) : BandIn (w.alloc (.cells #[.int .i64 b.id, .int .i64 b.lo, .int .i64 b.hi] 58)) w.heap.size b := heap_alloc_new w _
theorem BandIn.lt {w : World} {g : Nat} {b : Bd} (h : BandIn w g b) : g < w.heap.size := by
  rcases Nat.lt_or_ge g w.heap.size with hlt | hge
  · exact hlt
  · unfold BandIn at h; rw [Array.getElem?_eq_none hge] at h; cases h
theorem BandIn.keep {w w' : World} {g : Nat} {b : Bd} (h : BandIn w g b) (k : New w w') : BandIn w' g b := (k.out.block g h.lt).trans h
theorem BandIn.cell {w : World} {g : Nat} {b : Bd} (h : BandIn w g b) : w.cell? ⟨g, 0, none⟩ = some (.int .i64 b.id) ∧ w.cell? ⟨g, 1, none⟩ = some (.int .i64 b.lo) ∧ w.cell? ⟨g, 2, none⟩ = some (.int .i64 b.hi) := by
  unfold BandIn at h
  exact ⟨by rw [cell_of_row w g 0 _ _ _ h]; rfl, by rw [cell_of_row w g 1 _ _ _ h]; rfl, by rw [cell_of_row w g 2 _ _ _ h]; rfl⟩
theorem BandIn.put {w : World} {g : Nat} {b : Bd} (h : BandIn w g b) (i l u : Int) :
    BandIn (((w.setCell ⟨g, 0, none⟩ (.int .i64 i)).setCell ⟨g, 1, none⟩ (.int .i64 l)).setCell ⟨g, 2, none⟩ (.int .i64 u)) g ⟨i, l, u⟩ := by
  unfold BandIn at h ⊢
  simp [World.setCell, Array.getElem?_modify, h]
theorem BandIn.free {w : World} {g : Nat} {b : Bd} (h : BandIn w g b) (i : Nat) : w.frozen? ⟨g, i, none⟩ = false := by
  unfold BandIn at h
  simp [World.frozen?, h]
set_option maxHeartbeats 1000000 in
theorem air_Nearest (A : Option Addr) (n c : Nat) (l : List Bd) (khz : Int) (w : World) (hl : BandsAt w A n l) (hn : n ≤ c) (hc : c ≤ 9223372036854775807) :
    Calls Tryz.prog 27 #[.slice A n c, .int .i64 khz] w fun e w' => e = .returned (.tuple #[.int .i64 (nearV l khz).1, .int .i64 (nearV l khz).2.1, .int .i64 (nearV l khz).2.2]) ∧ New w w' := by
  have hlen := hl.1
  go_enter Tryz.func27, Tryz.ntmps27
  go_wp2_with fail
  refine (air_checkKhz A n c l khz _ hl (by omega)).mono ?_
  rintro e w1 ⟨rfl, h1⟩
  by_cases he : checkE l khz = 0
  · obtain ⟨hv, hk1, hk2⟩ := checkE_ok he
    have hin := Lib.hid (vbB_in hv)
    have HE := Lib.hid he
    rw [he]
    clear hv he
    rcases l with _ | ⟨b, l⟩
    · have hn0 : n = 0 := by simpa using hlen.symm
      subst hn0
      go_wp2
      go_ret3
      exact ⟨by simp [nearV, HE.out], h1⟩
    · obtain ⟨bk, off, id, lo, hi, rfl, hb, hd, c0, c1, c2⟩ := hl.cells h1 (k := 0) (by simp at hlen; omega)
      simp only [Nat.zero_mul, Nat.add_zero] at c0 c1 c2
      simp only [List.drop_zero, List.drop_succ_cons, List.cons.injEq] at hd
      obtain ⟨rfl, -⟩ := hd
      have hn1 : ((n : Int) == 0) = false := by rw [beq_eq_false_iff_ne]; simp at hlen; omega
      have hln : l.length + 1 = n := hlen
      rcases (by omega : c = 1 ∨ c ≠ 1) with hc1 | hc1
      all_goals
        go_wp2_with fail
        go_loopw [10, 26] (fun _ i wr => ∃ (k : Nat) (b' : Bd), k + 1 ≤ n ∧ i = .int .i64 k ∧ BandIn wr w1.heap.size b' ∧ Bd.fit b' ∧ bestGo khz ⟨id, lo, hi⟩ l = bestGo khz b' (l.drop k) ∧ New w1 wr) (fun _ i _ => n - (intOf i).toNat)
        case atStart => exact ⟨0, ⟨id, lo, hi⟩, by omega, rfl, BandIn.new w1 ⟨id, lo, hi⟩, by have := hin.out _ (List.mem_cons_self ..); simp only [Bd.fit] at *; omega, by simp, (New.refl _).alloc _⟩
        case round =>
          obtain ⟨k, b', hk, rfl, hbi, hfit, hgo, hnew⟩ := hrel
          obtain ⟨id', lo', hi'⟩ := b'
          have hin' := Lib.hid hin
          by_cases hlt : k + 1 < n
          · first | (exfalso; omega) | (
              obtain ⟨bk', off', id2, lo2, hi2, he2, hb2, hd2, e0, e1, e2⟩ := hl.cells (h1.trans hnew) hlt
              injection he2 with he2
              injection he2 with q1 q2
              subst q1 q2
              rw [List.drop_succ_cons] at hd2
              have hm : (⟨id2, lo2, hi2⟩ : Bd) ∈ ⟨id, lo, hi⟩ :: l := List.mem_cons_of_mem _ (List.drop_subset k _ (by rw [hd2]; exact List.mem_cons_self ..))
              have hf2 := hin.out _ hm
              simp only [Bd.fit] at hf2 hfit
              have HGO := Lib.hid hgo
              have HD := Lib.hid hd2
              clear hgo hd2 hm
              obtain ⟨f0, f1, f2⟩ := hbi.cell
              have hlt8 := hbi.lt
              rw [show off + (k + 1) * 3 = off + 3 + k * 3 by omega] at e0 e1 e2
              have hW : BandIn (wr.alloc (.cells #[.int .i64 id2, .int .i64 lo2, .int .i64 hi2] 58)) wr.heap.size ⟨id2, lo2, hi2⟩ := BandIn.new wr ⟨id2, lo2, hi2⟩
              have hV : BandIn (wr.alloc (.cells #[.int .i64 id2, .int .i64 lo2, .int .i64 hi2] 58)) w1.heap.size ⟨id', lo', hi'⟩ := hbi.keep ((New.refl _).alloc _)
              have hS : ∀ w', New (wr.alloc (.cells #[.int .i64 id2, .int .i64 lo2, .int .i64 hi2] 58)) w' → New (wr.alloc (.cells #[.int .i64 id2, .int .i64 lo2, .int .i64 hi2] 58)) w' ∧
                  w'.cell? ⟨wr.heap.size, 0, none⟩ = some (.int .i64 id2) ∧ w'.cell? ⟨wr.heap.size, 1, none⟩ = some (.int .i64 lo2) ∧ w'.cell? ⟨wr.heap.size, 2, none⟩ = some (.int .i64 hi2) ∧
                  w'.cell? ⟨w1.heap.size, 0, none⟩ = some (.int .i64 id') ∧ w'.cell? ⟨w1.heap.size, 1, none⟩ = some (.int .i64 lo') ∧ w'.cell? ⟨w1.heap.size, 2, none⟩ = some (.int .i64 hi') ∧ w'.frozen? ⟨w1.heap.size, 0, none⟩ = false ∧ w'.frozen? ⟨w1.heap.size, 1, none⟩ = false ∧ w'.frozen? ⟨w1.heap.size, 2, none⟩ = false :=
                fun w' h => ⟨h, (hW.keep h).cell.1, (hW.keep h).cell.2.1, (hW.keep h).cell.2.2, (hV.keep h).cell.1, (hV.keep h).cell.2.1, (hV.keep h).cell.2.2, (hV.keep h).free 0, (hV.keep h).free 1, (hV.keep h).free 2⟩
              have HS := Lib.hid hS
              have HV := Lib.hid hV
              clear hS hW hV f0 f1 f2
              go_wp2_with fail
              clear e0 e1 e2
              go_region_held3 (fun w' => New (wr.alloc (.cells #[.int .i64 id2, .int .i64 lo2, .int .i64 hi2] 58)) w' ∧
                  w'.cell? ⟨wr.heap.size, 0, none⟩ = some (.int .i64 id2) ∧ w'.cell? ⟨wr.heap.size, 1, none⟩ = some (.int .i64 lo2) ∧ w'.cell? ⟨wr.heap.size, 2, none⟩ = some (.int .i64 hi2) ∧
                  w'.cell? ⟨w1.heap.size, 0, none⟩ = some (.int .i64 id') ∧ w'.cell? ⟨w1.heap.size, 1, none⟩ = some (.int .i64 lo') ∧ w'.cell? ⟨w1.heap.size, 2, none⟩ = some (.int .i64 hi') ∧ w'.frozen? ⟨w1.heap.size, 0, none⟩ = false ∧ w'.frozen? ⟨w1.heap.size, 1, none⟩ = false ∧ w'.frozen? ⟨w1.heap.size, 2, none⟩ = false)
                (first | exact HS.out _ (New.refl _).drew | exact HS.out _ (New.trans (New.refl _).drew (by assumption)) | exact HS.out _ (New.trans (by first | assumption | exact (by assumption : New _ _ ∧ _).1) (by assumption)))
                (first | (go_at_call 58; refine (air_distance _ _ _ _ _ (by omega) (by omega) (by omega) (by omega) (by omega) hk2).mono ?_; rintro e w' ⟨rfl, hb⟩))
              go_wp2
              all_goals
                have hn : New (wr.alloc (.cells #[.int .i64 id2, .int .i64 lo2, .int .i64 hi2] 58)) w' := by first | assumption | exact (by assumption : New _ w' ∧ _).1
                have hn1 : New w1 w' := hnew.trans (((New.refl _).alloc _).trans hn)
                have HB := HV.out.keep hn
              · have hd : distI lo2 hi2 khz < distI lo' hi' khz := by assumption
                go_roundw
                case rel =>
                  refine ⟨k + 1, ⟨id2, lo2, hi2⟩, by omega, by go_num, HB.put _ _ _, by simp only [Bd.fit]; omega, ?_, ((hn1.setCell (by exact Nat.le_refl _) _).setCell (by exact Nat.le_refl _) _).setCell (by exact Nat.le_refl _) _⟩
                  rw [HGO.out, HD.out, bestGo, if_pos hd]
                  simp
                case measure => simp [intOf]; omega
              · have hd : distI lo' hi' khz ≤ distI lo2 hi2 khz := by assumption
                go_roundw
                case rel =>
                  refine ⟨k + 1, ⟨id', lo', hi'⟩, by omega, by go_num, HB, by simp only [Bd.fit]; omega, ?_, hn1⟩
                  rw [HGO.out, HD.out, bestGo, if_neg (by simp only; omega)]
                  simp
                case measure => simp [intOf]; omega)
          · have hl0 : l.drop k = [] := List.drop_eq_nil_of_le (by omega)
            rw [hl0, bestGo] at hgo
            have HGO := Lib.hid hgo
            have HV := Lib.hid hbi
            have HS : Hid (∀ w', New wr w' → New wr w' ∧ w'.cell? ⟨w1.heap.size, 0, none⟩ = some (.int .i64 id') ∧ w'.cell? ⟨w1.heap.size, 1, none⟩ = some (.int .i64 lo') ∧ w'.cell? ⟨w1.heap.size, 2, none⟩ = some (.int .i64 hi')) :=
              fun w' h => ⟨h, (hbi.keep h).cell.1, (hbi.keep h).cell.2.1, (hbi.keep h).cell.2.2⟩
            simp only [Bd.fit] at hfit
            clear hgo hbi hl0
            go_wp2_with fail
            go_region_held3 (fun w' => New wr w' ∧ w'.cell? ⟨w1.heap.size, 0, none⟩ = some (.int .i64 id') ∧ w'.cell? ⟨w1.heap.size, 1, none⟩ = some (.int .i64 lo') ∧ w'.cell? ⟨w1.heap.size, 2, none⟩ = some (.int .i64 hi'))
              (first | exact HS.out _ (New.refl _).drew | exact HS.out _ (New.trans (New.refl _).drew (by assumption)) | exact HS.out _ (New.trans (by first | assumption | exact (by assumption : New _ _ ∧ _).1) (by assumption)))
              (first | (go_at_call 58; refine (air_distance _ _ _ _ _ (by omega) (by omega) (by omega) (by omega) (by omega) hk2).mono ?_; rintro e w' ⟨rfl, hb⟩))
            go_wp2
            go_ret3
            have hn : New wr w' := by first | assumption | exact (by assumption : New _ w' ∧ _).1
            exact ⟨by simp only [nearV, if_pos HE.out, HGO.out]; rfl, h1.trans (hnew.trans hn)⟩
  · have hne : (checkE l khz != 0) = true := by rw [bne_iff_ne]; exact he
    go_wp2
    go_ret3
    exact ⟨by simp [nearV, he], h1⟩
def bandOfV (l : List Bd) (k : Int) : Int × Int :=
  if (nearV l k).2.2 = 0 ∧ 0 < (nearV l k).2.1 then (0, 3) else ((nearV l k).1, (nearV l k).2.2)
def refGo (k : Int) : Int → Int → List Bd → Int × Int
  | band, off, [] => (band, off)
  | band, off, b :: l => if distI b.lo b.hi k < off then refGo k b.id (distI b.lo b.hi k) l else refGo k band off l
theorem refGo_best (k : Int) : ∀ (l : List Bd) (b : Bd), refGo k b.id (distI b.lo b.hi k) l = ((bestGo k b l).id, distI (bestGo k b l).lo (bestGo k b l).hi k)
  | [], b => rfl
  | c :: l, b => by
    rw [refGo, bestGo]
    split
    · exact refGo_best k l c
    · exact refGo_best k l b
theorem nearV_ref {l : List Bd} {b : Bd} {k : Int} (h : checkE (b :: l) k = 0) : nearV (b :: l) k = ((refGo k 0 20000000 (b :: l)).1, (refGo k 0 20000000 (b :: l)).2, 0) := by
  obtain ⟨hv, h1, h2⟩ := checkE_ok h
  have hb := vbB_in hv b (List.mem_cons_self ..)
  have hd : distI b.lo b.hi k < 20000000 := by unfold distI; omega
  rw [refGo, if_pos hd, refGo_best, nearV, if_pos h]
theorem checkE_nv {l : List Bd} {k : Int} (h : vbB l = false) : checkE l k = 11 := by rw [checkE, if_pos h]
theorem checkE_nk {l : List Bd} {k : Int} (h : vbB l = true) (h' : withinB k 1 10000000 = false) : checkE l k = 1 := by rw [checkE, if_neg (by simp [h]), if_pos h']
theorem checkE_y {l : List Bd} {k : Int} (h : vbB l = true) (h' : withinB k 1 10000000 = true) : checkE l k = 0 := by rw [checkE, if_neg (by simp [h]), if_neg (by simp [h'])]
theorem nearV_err {l : List Bd} {k : Int} (h : checkE l k ≠ 0) : nearV l k = (0, 0, checkE l k) := by unfold nearV; rw [if_neg h]
def firstIn (k : Int) : List Bd → Option Int
  | [] => none
  | b :: l => if b.lo ≤ k ∧ k ≤ b.hi then some b.id else firstIn k l
theorem best_first (k : Int) : ∀ (t : List Bd) (b : Bd), (∀ id, firstIn k (b :: t) = some id → distI (bestGo k b t).lo (bestGo k b t).hi k = 0 ∧ (bestGo k b t).id = id) ∧ (firstIn k (b :: t) = none → 0 < distI (bestGo k b t).lo (bestGo k b t).hi k)
  | [], b => by
    refine ⟨fun id h => ?_, fun h => ?_⟩
    · simp only [firstIn] at h
      split at h
      · injection h with h
        exact ⟨by simp only [bestGo, distI]; omega, h⟩
      · cases h
    · simp only [firstIn] at h
      split at h
      · cases h
      · simp only [bestGo, distI]; omega
  | c :: t, b => by
    rw [bestGo]
    by_cases hb : b.lo ≤ k ∧ k ≤ b.hi
    · have h0 : ¬ distI c.lo c.hi k < distI b.lo b.hi k := by unfold distI; omega
      rw [if_neg h0]
      have ih := best_first k t b
      have e : firstIn k (b :: c :: t) = firstIn k (b :: t) := by rw [firstIn, if_pos hb, firstIn, if_pos hb]
      rw [e]
      exact ih
    · have e : firstIn k (b :: c :: t) = firstIn k (c :: t) := by rw [firstIn, if_neg hb]
      rw [e]
      by_cases h0 : distI c.lo c.hi k < distI b.lo b.hi k
      · rw [if_pos h0]
        exact best_first k t c
      · rw [if_neg h0]
        have hc : ¬ (c.lo ≤ k ∧ k ≤ c.hi) := by unfold distI at h0; omega
        have e2 : firstIn k (c :: t) = firstIn k (b :: t) := by rw [firstIn, if_neg hc, firstIn, if_neg hb]
        rw [e2]
        exact best_first k t b
theorem bandOf_first {l : List Bd} {k : Int} (h : checkE l k = 0) : bandOfV l k = match firstIn k l with | some id => (id, 0) | none => (0, 3) := by
  rcases l with _ | ⟨b, t⟩
  · simp [bandOfV, nearV, h, firstIn]
  · have hn : nearV (b :: t) k = ((bestGo k b t).id, distI (bestGo k b t).lo (bestGo k b t).hi k, 0) := by rw [nearV, if_pos h]
    obtain ⟨p, q⟩ := best_first k t b
    rw [bandOfV, hn]
    cases hf : firstIn k (b :: t) with
    | none => simp [q hf]
    | some id => obtain ⟨p1, p2⟩ := p id hf; simp [p1, p2]
theorem bandOf_err {l : List Bd} {k : Int} (h : checkE l k ≠ 0) : bandOfV l k = (0, checkE l k) := by
  rw [bandOfV, nearV_err h, if_neg (by simp)]
end Go.Proofs.YtkbdmdnahphkkaaGreatDoor
