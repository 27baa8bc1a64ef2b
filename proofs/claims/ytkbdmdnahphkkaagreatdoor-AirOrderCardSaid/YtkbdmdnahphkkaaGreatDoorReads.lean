/-
  readBase of the program: the prefix and the suffix of a text, and whether it is a base, for every text in memory. No other condition.
-/
import Derived.Test.YtkbdmdnahphkkaaGreatDoorChars
import Derived.Lib.Strings
import Derived.Deep.RegionWith
import Derived.Deep.DeepMust
namespace Go.Proofs.YtkbdmdnahphkkaaGreatDoor
open Go.RowKit
def isD (c : UInt8) : Bool := decide (48 ≤ c.toNat) && decide (c.toNat ≤ 57)
def isL (c : UInt8) : Bool := decide (65 ≤ c.toNat) && decide (c.toNat ≤ 90)
/-- How long a text is up to and with its last digit; 0: there is none. -/
def cutB : Bytes → Nat
  | [] => 0
  | c :: l => if cutB l = 0 then (if isD c then 1 else 0) else cutB l + 1
theorem cutB_le : ∀ l, cutB l ≤ l.length
  | [] => Nat.le_refl _
  | c :: l => by
    have := cutB_le l
    simp only [cutB, List.length_cons]
    repeat' split
    all_goals omega
theorem cutB_snoc (c : UInt8) : ∀ l, cutB (l ++ [c]) = if isD c then l.length + 1 else cutB l
  | [] => by simp [cutB]
  | a :: l => by
    have ih := cutB_snoc c l
    rw [List.cons_append, cutB, ih]
    cases hc : isD c
    · simp [cutB]
    · simp
theorem cutB_step (s : ByteArray) (pos : Nat) (h : pos < s.size) : cutB ((bs s).take (pos + 1)) = if isD (s[pos]'h) then pos + 1 else cutB ((bs s).take pos) := by
  have hl : pos < (bs s).length := by rw [bs_size]; exact h
  have hg : (bs s)[pos] = s[pos] := by have := bs_get s pos h; rw [List.getElem?_eq_getElem hl] at this; exact Option.some.inj this
  rw [List.take_succ_eq_append_getElem hl, cutB_snoc, hg, List.length_take, Nat.min_eq_left (by omega)]
  rfl
theorem cutB_high (s : ByteArray) (pos : Nat) : ∀ n, pos + n ≤ s.size → (∀ j, pos ≤ j → j < pos + n → ∀ (hj : j < s.size), 128 ≤ (s[j]'hj).toNat) →
    cutB ((bs s).take (pos + n)) = cutB ((bs s).take pos)
  | 0, _, _ => rfl
  | n + 1, hn, hb => by
    have ih := cutB_high s pos n (by omega) (fun j h1 h2 hj => hb j h1 (by omega) hj)
    have hs := cutB_step s (pos + n) (by omega)
    have h1 := hb (pos + n) (by omega) (by omega) (by omega)
    rw [if_neg (by simp only [isD, Bool.and_eq_true, decide_eq_true_eq]; omega)] at hs
    rw [← Nat.add_assoc, hs, ih]
theorem cut_on (s : ByteArray) (pos : Nat) (h : pos < s.size) :
    pos + (Utf8.decode s pos).2 ≤ s.size ∧
    (rngR 48 57 (Utf8.decode s pos).1 = true → cutB ((bs s).take (pos + (Utf8.decode s pos).2)) = pos + 1) ∧
    (rngR 48 57 (Utf8.decode s pos).1 = false → cutB ((bs s).take (pos + (Utf8.decode s pos).2)) = cutB ((bs s).take pos)) := by
  by_cases ha : (s[pos]'h).toNat < 128
  · rw [decode_ascii s pos h ha]
    refine ⟨h, fun hr => ?_, fun hr => ?_⟩
    · simp [rngR] at hr
      rw [cutB_step s pos h, if_pos (by simp only [isD, Bool.and_eq_true, decide_eq_true_eq]; omega)]
    · simp [rngR] at hr
      rw [cutB_step s pos h, if_neg (by simp only [isD, Bool.and_eq_true, decide_eq_true_eq]; omega)]
  · obtain ⟨h1, h2⟩ := decode_skip s pos h (by omega)
    have h3 := (decode_high s pos h (by omega)).1
    refine ⟨h1, fun hr => ?_, fun hr => cutB_high s pos _ h1 h2⟩
    simp [rngR] at hr
    omega
theorem extract_B (s : ByteArray) (a b : Nat) : s.extract a b = B (((bs s).take b).drop a) := by
  apply bs_inj
  rw [bs_B]
  show (s.extract a b).data.toList = _
  rw [Lib.extract_data, List.take_drop]
  by_cases h : a ≤ b
  · rw [Nat.add_sub_cancel' h]; rfl
  · rw [show a + (b - a) = a by omega, List.drop_eq_nil_of_le (by simp; omega), List.drop_eq_nil_of_le (by simp; omega)]
def baseB (l : Bytes) : Bool := areaB (l.take (cutB l)) && wordB (l.drop (cutB l))
/-- The parts of a call sign as a value. -/
def partsV (a p q r : Bytes) : Value := .agg #[.string (B a), .string (B p), .string (B q), .string (B r)]
/-- Block g is the four texts of parts. -/
def PartsIn (w : World) (g : Nat) (a p q r : ByteArray) : Prop := w.heap[g]? = some (.cells #[.string a, .string p, .string q, .string r] 45 (0, 0))
theorem PartsIn.new (w : World) (a p q r : ByteArray) : PartsIn (w.alloc (.cells #[.string a, .string p, .string q, .string r] 45)) w.heap.size a p q r := heap_alloc_new w _
theorem PartsIn.lt {w : World} {g : Nat} {a p q r : ByteArray} (h : PartsIn w g a p q r) : g < w.heap.size := by
  rcases Nat.lt_or_ge g w.heap.size with hlt | hge
  · exact hlt
  · unfold PartsIn at h; rw [Array.getElem?_eq_none hge] at h; cases h
theorem PartsIn.keep {w w' : World} {g : Nat} {a p q r : ByteArray} (h : PartsIn w g a p q r) (k : New w w') : PartsIn w' g a p q r := (k.out.block g h.lt).trans h
theorem PartsIn.below {w w' : World} {g b : Nat} {a p q r : ByteArray} (h : PartsIn w g a p q r) (k : Below b w w') (hb : g < b) : PartsIn w' g a p q r := (k.block g hb).trans h
/-- What a walk asks of such a block: its four cells, none of them frozen. -/
def Parts4 (w : World) (g : Nat) (a p q r : ByteArray) : Prop :=
  w.cell? ⟨g, 0, none⟩ = some (.string a) ∧ w.cell? ⟨g, 1, none⟩ = some (.string p) ∧ w.cell? ⟨g, 2, none⟩ = some (.string q) ∧ w.cell? ⟨g, 3, none⟩ = some (.string r) ∧
  w.frozen? ⟨g, 0, none⟩ = false ∧ w.frozen? ⟨g, 1, none⟩ = false ∧ w.frozen? ⟨g, 2, none⟩ = false ∧ w.frozen? ⟨g, 3, none⟩ = false
theorem PartsIn.all {w : World} {g : Nat} {a p q r : ByteArray} (h : PartsIn w g a p q r) : Parts4 w g a p q r := by
  unfold PartsIn at h
  unfold Parts4
  refine ⟨by rw [cell_of_row w g 0 _ _ _ h]; rfl, by rw [cell_of_row w g 1 _ _ _ h]; rfl, by rw [cell_of_row w g 2 _ _ _ h]; rfl, by rw [cell_of_row w g 3 _ _ _ h]; rfl, ?_, ?_, ?_, ?_⟩
  all_goals simp [World.frozen?, h]
/-- What a cell holds, whatever it is. -/
def cellOf (w : World) (a : Addr) : Value := (w.cell? a).getD undef
theorem cell_some {w : World} {a : Addr} {v : Value} (h : w.cell? a = some v) : w.cell? a = some (cellOf w a) := by
  unfold cellOf; rw [h]; rfl
theorem cell_put (w : World) (a b : Addr) (v : Value) (hb : ∃ u, w.cell? b = some u) : ∃ u, (w.setCell a v).cell? b = some u := by
  obtain ⟨u, hu⟩ := hb
  exact cell?_setCell_some hu
theorem cell_back {w : World} {a b : Addr} {v u : Value} (h : (w.setCell a v).cell? b = some u) : ∃ u, w.cell? b = some u := by
  by_cases e : a = b
  · subst e
    simp only [World.setCell, World.cell?, Array.getElem?_modify, ↓reduceIte] at h
    simp only [World.cell?]
    cases hh : w.heap[a.block]? with
    | none => simp [hh] at h
    | some x =>
      cases x <;> simp [hh] at h
      rename_i c t f
      cases hs : a.spot with
      | some _ => simp [hs] at h
      | none =>
        have hoff : a.off < c.size := by
          rcases Nat.lt_or_ge a.off c.size with h' | h'
          · exact h'
          · simp [hs, h'] at h
        simp [hoff]
  · exact ⟨u, (World.cell?_setCell_other w a b v e).symm.trans h⟩
theorem frozen_put (w : World) (a b : Addr) (v : Value) : (w.setCell a v).frozen? b = w.frozen? b := by rw [World.frozen?_setCell]
/-- In the middle of 'return p, ..': p lies in block g, the result's block is r, and whatever it holds may be overwritten. -/
def MidParts (W : World) (r g : Nat) (a p q t : ByteArray) (w' : World) : Prop :=
  (Below r W w' ∧ r < w'.heap.size ∧ g < w'.heap.size ∧ r ≠ g) ∧
  w'.cell? ⟨g, 0, none⟩ = some (.string a) ∧ w'.cell? ⟨g, 1, none⟩ = some (.string p) ∧ w'.cell? ⟨g, 2, none⟩ = some (.string q) ∧ w'.cell? ⟨g, 3, none⟩ = some (.string t) ∧
  w'.cell? ⟨r, 0, none⟩ = some (cellOf w' ⟨r, 0, none⟩) ∧ w'.cell? ⟨r, 1, none⟩ = some (cellOf w' ⟨r, 1, none⟩) ∧ w'.cell? ⟨r, 2, none⟩ = some (cellOf w' ⟨r, 2, none⟩) ∧ w'.cell? ⟨r, 3, none⟩ = some (cellOf w' ⟨r, 3, none⟩) ∧
  w'.frozen? ⟨r, 0, none⟩ = false ∧ w'.frozen? ⟨r, 1, none⟩ = false ∧ w'.frozen? ⟨r, 2, none⟩ = false ∧ w'.frozen? ⟨r, 3, none⟩ = false
theorem MidParts.of {W w' : World} {r g : Nat} {a p q t a' p' q' t' : ByteArray} (hb : Below r W w') (hr : PartsIn w' r a' p' q' t') (hg : PartsIn w' g a p q t) (hne : r ≠ g) : MidParts W r g a p q t w' := by
  obtain ⟨r0, r1, r2, r3, f0, f1, f2, f3⟩ := hr.all
  obtain ⟨g0, g1, g2, g3, -, -, -, -⟩ := hg.all
  exact ⟨⟨hb, hr.lt, hg.lt, hne⟩, g0, g1, g2, g3, cell_some r0, cell_some r1, cell_some r2, cell_some r3, f0, f1, f2, f3⟩
theorem MidParts.call {W w1 w2 : World} {r g : Nat} {a p q t : ByteArray} (h : MidParts W r g a p q t w1) (k : New w1 w2) : MidParts W r g a p q t w2 := by
  obtain ⟨⟨hb, hr, hg, hne⟩, g0, g1, g2, g3, r0, r1, r2, r3, f0, f1, f2, f3⟩ := h
  have c : ∀ i, w2.cell? ⟨r, i, none⟩ = w1.cell? ⟨r, i, none⟩ := fun i => k.cell (p := ⟨r, i, none⟩) hr
  have d : ∀ i, w2.cell? ⟨g, i, none⟩ = w1.cell? ⟨g, i, none⟩ := fun i => k.cell (p := ⟨g, i, none⟩) hg
  have f : ∀ i, w2.frozen? ⟨r, i, none⟩ = w1.frozen? ⟨r, i, none⟩ := fun i => k.frozen (p := ⟨r, i, none⟩) hr
  have hbr : Below r W w2 := ⟨k.out.os.trans hb.os, k.out.tape.trans hb.tape, k.out.output.trans hb.output, Nat.le_trans hb.size k.size, fun i hi => (k.out.block i (by omega)).trans (hb.block i hi)⟩
  exact ⟨⟨hbr, Nat.lt_of_lt_of_le hr k.size, Nat.lt_of_lt_of_le hg k.size, hne⟩, (d 0).trans g0, (d 1).trans g1, (d 2).trans g2, (d 3).trans g3,
    cell_some ((c 0).trans r0), cell_some ((c 1).trans r1), cell_some ((c 2).trans r2), cell_some ((c 3).trans r3), (f 0).trans f0, (f 1).trans f1, (f 2).trans f2, (f 3).trans f3⟩
theorem MidParts.drew {W w1 : World} {r g : Nat} {a p q t : ByteArray} (h : MidParts W r g a p q t w1) : MidParts W r g a p q t w1.drew := h.call ((New.refl _).drew)
theorem MidParts.set {W w1 : World} {r g : Nat} {a p q t : ByteArray} (h : MidParts W r g a p q t w1) (i : Nat) (v : Value) : MidParts W r g a p q t (w1.setCell ⟨r, i, none⟩ v) := by
  obtain ⟨⟨hb, hr, hg, hne⟩, g0, g1, g2, g3, r0, r1, r2, r3, f0, f1, f2, f3⟩ := h
  have d : ∀ j, (w1.setCell ⟨r, i, none⟩ v).cell? ⟨g, j, none⟩ = w1.cell? ⟨g, j, none⟩ := fun j => World.cell?_setCell_other _ _ _ _ (by intro e; injection e with e; exact hne e)
  have c : ∀ j, (∃ u, w1.cell? ⟨r, j, none⟩ = some u) → (w1.setCell ⟨r, i, none⟩ v).cell? ⟨r, j, none⟩ = some (cellOf (w1.setCell ⟨r, i, none⟩ v) ⟨r, j, none⟩) := fun j hj => by
    obtain ⟨u, hu⟩ := cell_put w1 ⟨r, i, none⟩ ⟨r, j, none⟩ v hj
    exact cell_some hu
  have hs : (w1.setCell ⟨r, i, none⟩ v).heap.size = w1.heap.size := by simp [World.setCell]
  exact ⟨⟨hb.setCell (Nat.le_refl _) v, by rw [hs]; exact hr, by rw [hs]; exact hg, hne⟩, (d 0).trans g0, (d 1).trans g1, (d 2).trans g2, (d 3).trans g3,
    c 0 ⟨_, r0⟩, c 1 ⟨_, r1⟩, c 2 ⟨_, r2⟩, c 3 ⟨_, r3⟩, (frozen_put ..).trans f0, (frozen_put ..).trans f1, (frozen_put ..).trans f2, (frozen_put ..).trans f3⟩
set_option maxHeartbeats 1000000 in
theorem air_readBase (s : ByteArray) (w : World) (hs : s.size ≤ 9223372036854775807) :
    Calls Tryz.prog 74 #[.string s] w fun e w' => e = .returned (.tuple #[partsV [] ((bs s).take (cutB (bs s))) ((bs s).drop (cutB (bs s))) [], .bool (baseB (bs s))]) ∧ New w w' := by
  have hz := bs_size s
  go_enter Tryz.func74, Tryz.ntmps74
  go_wp2_with fail
  go_loopw [4] (fun x wr => ∃ (pos : Nat), pos ≤ s.size ∧ x = .int .i64 (cutB ((bs s).take pos)) ∧ wr.heap[w.heap.size + 1]? = some (.stringIter s pos) ∧ Below (w.heap.size + 1) (w.alloc (.cells #[.string ⟨#[]⟩, .string ⟨#[]⟩, .string ⟨#[]⟩, .string ⟨#[]⟩] 45)) wr) (fun _ wr => s.size - wr.iterPos (w.heap.size + 1))
  case atStart =>
    refine ⟨0, by omega, by simp [cutB], ?_, (Below.refl _ _).alloc (by simp) _⟩
    have := World.iter_heap (w.alloc (.cells #[.string ⟨#[]⟩, .string ⟨#[]⟩, .string ⟨#[]⟩, .string ⟨#[]⟩] 45)) s 0
    simpa using this
  case round =>
    obtain ⟨pos, hp, rfl, hit, hnew⟩ := hrel
    have hc := cutB_le ((bs s).take pos)
    have hc2 : ((bs s).take pos).length ≤ pos := List.length_take_le _ _
    by_cases hlt : pos < s.size
    · have hnx : ∀ ty, (Instr.next (.pointer (some ⟨w.heap.size + 1, 0, none⟩)) true ty).run Tryz.prog wr = _ := fun ty => Lib.run_next_any_at wr (w.heap.size + 1) s pos ty hit hlt
      obtain ⟨h1, h2, h3⟩ := cut_on s pos hlt
      have hd := decode_pos s pos hlt
      have hit2 := Lib.iterAt_heap wr (w.heap.size + 1) s pos (pos + (Utf8.decode s pos).2) hit
      have hn2 := Lib.below_iterAt hnew (Nat.le_refl _) s (pos + (Utf8.decode s pos).2)
      have H2 := Lib.hid h2
      have H3 := Lib.hid h3
      clear h2 h3
      go_wp2_with fail
      refine (air_isDigit _ _).mono ?_
      rintro e w' ⟨rfl, rfl⟩
      cases hr : rngR 48 57 (Utf8.decode s pos).1
      · go_wp2
        go_roundw
        case rel =>
          exact ⟨_, h1, by rw [H3.out hr], hit2, hn2⟩
        case measure => rw [iterPos_of hit2, iterPos_of hit]; omega
      · go_wp2
        go_roundw
        case rel =>
          exact ⟨_, h1, by rw [H2.out hr]; go_num, hit2, hn2⟩
        case measure => rw [iterPos_of hit2, iterPos_of hit]; omega
    · have hnx : ∀ ty, (Instr.next (.pointer (some ⟨w.heap.size + 1, 0, none⟩)) true ty).run Tryz.prog wr = _ := fun ty => Lib.run_next_end_at wr (w.heap.size + 1) s pos ty hit hlt
      have hfin : (bs s).take pos = bs s := List.take_of_length_le (by omega)
      rw [hfin, hz] at hc
      rw [hfin]
      have hb : Hid (baseB (bs s) = (areaB ((bs s).take (cutB (bs s))) && wordB ((bs s).drop (cutB (bs s))))) := rfl
      clear hfin hc2
      generalize hk : cutB (bs s) = k at *
      have HK := Lib.hid hk
      clear hk
      go_wp2_with fail
      go_region
      go_wp2_with fail
      have e0 : s.extract 0 k = B ((bs s).take k) := by rw [extract_B]; rfl
      have e1 : s.extract k s.size = B ((bs s).drop k) := by rw [extract_B, List.take_of_length_le (by omega)]
      have hsz : w.heap.size + 1 < wr.heap.size := (Array.getElem?_eq_some_iff.1 hit).1
      have P0 : PartsIn wr w.heap.size ⟨#[]⟩ ⟨#[]⟩ ⟨#[]⟩ ⟨#[]⟩ := (PartsIn.new w _ _ _ _).below hnew (by omega)
      have hq : Below w.heap.size w wr := (((New.refl w).alloc _).out.trans (hnew.mono (by simp)))
      have H0 : Hid (MidParts w w.heap.size wr.heap.size ⟨#[]⟩ (s.extract 0 k) (s.extract k s.size) ⟨#[]⟩ (wr.alloc (.cells #[.string ⟨#[]⟩, .string (s.extract 0 k), .string (s.extract k s.size), .string ⟨#[]⟩] 45)).drew) :=
        (MidParts.of (hq.alloc (by omega) _) (P0.keep ((New.refl _).alloc _)) (PartsIn.new wr _ _ _ _) (by omega)).drew
      have E0 := Lib.hid e0
      have E1 := Lib.hid e1
      have L0 : (s.extract 0 k).size ≤ 9223372036854775807 := by rw [e0, B_size, List.length_take]; omega
      have L1 : (s.extract k s.size).size ≤ 9223372036854775807 := by rw [e1, B_size, List.length_drop]; omega
      clear e0 e1 P0 hq hnx hit hnew
      have cA := Lib.hid (fun w => air_isArea (s.extract 0 k) w L0)
      have cW := Lib.hid (fun w => air_isWord (s.extract k s.size) w L1)
      have hb : baseB (bs s) = (areaB (bs (s.extract 0 k)) && wordB (bs (s.extract k s.size))) := by rw [hb.out, E0.out, E1.out, bs_B, bs_B]
      have HB := Lib.hid hb
      clear hb
      cases ha : areaB (bs (s.extract 0 k))
      · rw [ha] at cA HB
        obtain ⟨-, g0, g1, g2, g3, r0, r1, r2, r3, f0, f1, f2, f3⟩ := H0.out
        first | (go_region_with (first | (go_at_call 76; refine (cA.out _).mono ?_; rintro e w' ⟨rfl, hb⟩; obtain ⟨⟨hbw, -⟩, g0', g1', g2', g3', r0', r1', r2', r3', f0', f1', f2', f3'⟩ := MidParts.call H0.out.drew hb))) | fail
        all_goals
          go_wp2
          refine bodyPost_ret (v := .tuple #[.agg #[.string ⟨#[]⟩, .string (s.extract 0 k), .string (s.extract k s.size), .string ⟨#[]⟩], .bool false]) (by simp [results, Tryz.results74, go_sem, *]) rfl ⟨?_, ?_⟩
          · rw [HB.out, HK.out, E0.out, E1.out]; rfl
          · exact (((hbw.setCell (Nat.le_refl _) _).setCell (Nat.le_refl _) _).setCell (Nat.le_refl _) _).setCell (Nat.le_refl _) _
      · rw [ha] at cA HB
        cases hw : wordB (bs (s.extract k s.size))
        all_goals
          rw [hw] at cW HB
          first | (go_must (go_region_held3 (fun w' => (Below w.heap.size w w' ∧ w.heap.size < w'.heap.size ∧ wr.heap.size < w'.heap.size ∧ w.heap.size ≠ wr.heap.size) ∧
            w'.cell? ⟨wr.heap.size, 0, none⟩ = some (.string ⟨#[]⟩) ∧ w'.cell? ⟨wr.heap.size, 1, none⟩ = some (.string (s.extract 0 k)) ∧ w'.cell? ⟨wr.heap.size, 2, none⟩ = some (.string (s.extract k s.size)) ∧ w'.cell? ⟨wr.heap.size, 3, none⟩ = some (.string ⟨#[]⟩) ∧
            w'.cell? ⟨w.heap.size, 0, none⟩ = some (cellOf w' ⟨w.heap.size, 0, none⟩) ∧ w'.cell? ⟨w.heap.size, 1, none⟩ = some (cellOf w' ⟨w.heap.size, 1, none⟩) ∧ w'.cell? ⟨w.heap.size, 2, none⟩ = some (cellOf w' ⟨w.heap.size, 2, none⟩) ∧ w'.cell? ⟨w.heap.size, 3, none⟩ = some (cellOf w' ⟨w.heap.size, 3, none⟩) ∧
            w'.frozen? ⟨w.heap.size, 0, none⟩ = false ∧ w'.frozen? ⟨w.heap.size, 1, none⟩ = false ∧ w'.frozen? ⟨w.heap.size, 2, none⟩ = false ∧ w'.frozen? ⟨w.heap.size, 3, none⟩ = false)
          (first | assumption | exact H0.out.drew | exact MidParts.call (by assumption) (by assumption) | exact MidParts.set (MidParts.set (MidParts.set (MidParts.set (by assumption) _ _) _ _) _ _) _ _)
          (first | (go_at_call 76; refine (cA.out _).mono ?_; rintro e w' ⟨rfl, hb⟩) | (go_at_call 110; refine (cW.out _).mono ?_; rintro e w' ⟨rfl, hb⟩)))) | fail
          go_wp2
          have hm := (by assumption : (Below w.heap.size w _ ∧ _) ∧ _ ∧ _ ∧ _ ∧ _ ∧ _ ∧ _ ∧ _ ∧ _ ∧ _)
          obtain ⟨_, q0⟩ := cell_back hm.2.2.2.2.2.1
          obtain ⟨_, q0⟩ := cell_back q0
          obtain ⟨_, q0⟩ := cell_back q0
          obtain ⟨_, q0⟩ := cell_back q0
          obtain ⟨_, q1⟩ := cell_back hm.2.2.2.2.2.2.1
          obtain ⟨_, q1⟩ := cell_back q1
          obtain ⟨_, q1⟩ := cell_back q1
          obtain ⟨_, q1⟩ := cell_back q1
          obtain ⟨_, q2⟩ := cell_back hm.2.2.2.2.2.2.2.1
          obtain ⟨_, q2⟩ := cell_back q2
          obtain ⟨_, q2⟩ := cell_back q2
          obtain ⟨_, q2⟩ := cell_back q2
          obtain ⟨_, q3⟩ := cell_back hm.2.2.2.2.2.2.2.2.1
          obtain ⟨_, q3⟩ := cell_back q3
          obtain ⟨_, q3⟩ := cell_back q3
          obtain ⟨_, q3⟩ := cell_back q3
          refine bodyPost_ret (v := .tuple #[.agg #[.string ⟨#[]⟩, .string (s.extract 0 k), .string (s.extract k s.size), .string ⟨#[]⟩], .bool _]) (by simp [results, Tryz.results74, go_sem, q0, q1, q2, q3]; rfl) rfl ⟨?_, hm.1.1⟩
          rw [HB.out, HK.out, E0.out, E1.out]
          rfl

end Go.Proofs.YtkbdmdnahphkkaaGreatDoor
