/-
  Systems of clocks as plain values: what is valid, the bounds, and the net of places that they make. No program, no condition.
  What the walks over systems of clocks use: rows of cells that a call makes itself, slices of numbers, of tracks and of ties in memory, and what a later world keeps of them. No condition.
  within, segment, ValidClock, ValidTrack, isLine of the program. Condition: the slices lie in memory.
  isLine of the program. Condition: the system lies in memory.
  checkTies, Check, checkLines, Segment of the program. Condition: the system lies in memory.
  Check, checkLines, Segment of the program. Condition: the system lies in memory.
-/
import Derived.Test.YtodmbcoobjcooaaDoorCkGraph
import Derived.Test.YtodmbcoobjcooaaDoorProg
import Derived.Test.YtodmbcoobjcooaaDoorBase
import Derived.Laws.Rows
import Derived.Deep.RegionHeld3
import Derived.Outline
import Derived.IntWalk
namespace Go.Proofs.YtodmbcoobjcooaaDoor
structure Rf where
  log : Int
  line : Int
deriving DecidableEq, Inhabited
def beg : Rf := ⟨-1, 0⟩
structure Bd where
  frm : Rf
  to : Rf
  most : Int
  kind : Int
  id : Int
deriving DecidableEq, Inhabited
structure Tk where
  slip : Int
  drift : Int
  jumps : List Int
  times : List Int
deriving Inhabited
structure Ti where
  a : Rf
  b : Rf
deriving DecidableEq, Inhabited
structure Sy where
  tracks : List Tk
  ties : List Ti
  window : Int
def wiB (n lo hi : Int) : Bool := decide (lo ≤ n) && decide (n ≤ hi)
theorem wiB_iff {n lo hi : Int} : wiB n lo hi = true ↔ lo ≤ n ∧ n ≤ hi := by simp [wiB]
def jumpsB : Int → List Int → Bool
  | _, [] => true
  | last, j :: l => wiB j (last + 1) 20000 && jumpsB j l
def timesB : Int → List Int → Bool
  | _, [] => true
  | last, j :: l => wiB j last 20000 && timesB j l
def clockB (t : Tk) : Bool := jumpsB (-1) t.jumps && (wiB t.slip 0 1440 && (wiB t.drift 0 100 && decide (t.jumps.length ≤ 16)))
def trackB (t : Tk) : Bool := timesB 0 t.times && (clockB t && decide (t.times.length ≤ 400))
def tkAt (s : Sy) (i : Nat) : Tk := s.tracks[i]?.getD default
def tmAt (t : Tk) (j : Nat) : Int := t.times[j]?.getD 0
def lineB (s : Sy) (r : Rf) : Bool := wiB r.log 0 ((s.tracks.length : Int) - 1) && wiB r.line 0 (((tkAt s r.log.toNat).times.length : Int) - 1)
def tieNone (s : Sy) (t : Ti) : Bool := !lineB s t.a || !lineB s t.b
def tieArg (t : Ti) : Bool := decide (t.a.log = t.b.log)
def tiesE (s : Sy) (l : List Ti) : Int := if l.any (tieNone s) then 3 else if l.any tieArg then 1 else 0
def checkE (s : Sy) : Int := if 64 < s.tracks.length ∨ 400 < s.ties.length then 2 else if !s.tracks.all trackB then 30 else if tiesE s s.ties ≠ 0 then 30 else if !wiB s.window 0 120 then 30 else 0
theorem checkE_ok {s : Sy} (h : checkE s = 0) : s.tracks.length ≤ 64 ∧ s.ties.length ≤ 400 ∧ (∀ t ∈ s.tracks, trackB t = true) ∧ tiesE s s.ties = 0 ∧ 0 ≤ s.window ∧ s.window ≤ 120 := by
  unfold checkE at h
  by_cases h1 : 64 < s.tracks.length ∨ 400 < s.ties.length
  · rw [if_pos h1] at h; cases h
  rw [if_neg h1] at h
  by_cases h2 : (!s.tracks.all trackB) = true
  · rw [if_pos h2] at h; cases h
  rw [if_neg h2] at h
  by_cases h3 : tiesE s s.ties ≠ 0
  · rw [if_pos h3] at h; cases h
  rw [if_neg h3] at h
  by_cases h4 : (!wiB s.window 0 120) = true
  · rw [if_pos h4] at h; cases h
  have h5 : wiB s.window 0 120 = true := by simpa using h4
  have h6 := wiB_iff.1 h5
  refine ⟨by omega, by omega, ?_, by omega, h6.1, h6.2⟩
  simpa using h2
def segN (l : List Int) (m : Int) : Nat := l.countP (fun j => decide (j ≤ m))
-- the bounds
def upB (i : Nat) (t : Tk) (j : Nat) : Bd := ⟨beg, ⟨i, j⟩, tmAt t j + t.slip, 1, j⟩
def downB (i : Nat) (t : Tk) (j : Nat) : Bd := ⟨⟨i, j⟩, beg, t.slip - tmAt t j, 1, j⟩
def slipsT (i : Nat) (t : Tk) (k : Nat) : List Bd := (List.range k).flatMap fun j => [upB i t j, downB i t j]
def slipsL (s : Sy) (k : Nat) : List Bd := (List.range k).flatMap fun i => slipsT i (tkAt s i) (tkAt s i).times.length
def orderB (i j : Nat) : Bd := ⟨⟨i, (j : Int) + 1⟩, ⟨i, j⟩, 0, 2, j⟩
def shown (t : Tk) (j : Nat) : Int := tmAt t (j + 1) - tmAt t j
def wrong (t : Tk) (j : Nat) : Int := 1 + (t.drift * shown t j + 999) / 1000
def driftUp (i : Nat) (t : Tk) (j : Nat) : Bd := ⟨⟨i, j⟩, ⟨i, (j : Int) + 1⟩, shown t j + wrong t j, 3, j⟩
def driftDown (i : Nat) (t : Tk) (j : Nat) : Bd := ⟨⟨i, (j : Int) + 1⟩, ⟨i, j⟩, wrong t j - shown t j, 3, j⟩
def stepL (i : Nat) (t : Tk) (j : Nat) : List Bd := orderB i j :: if segN t.jumps (tmAt t j) = segN t.jumps (tmAt t (j + 1)) then [driftUp i t j, driftDown i t j] else []
def stepsT (i : Nat) (t : Tk) (k : Nat) : List Bd := (List.range k).flatMap (stepL i t)
def stepsL (s : Sy) (k : Nat) : List Bd := (List.range k).flatMap fun i => stepsT i (tkAt s i) ((tkAt s i).times.length - 1)
def tiAt (s : Sy) (i : Nat) : Ti := s.ties[i]?.getD default
def thereB (s : Sy) (i : Nat) : Bd := ⟨(tiAt s i).a, (tiAt s i).b, s.window, 4, i⟩
def backB (s : Sy) (i : Nat) : Bd := ⟨(tiAt s i).b, (tiAt s i).a, s.window, 4, i⟩
def tiesL (s : Sy) (k : Nat) : List Bd := (List.range k).flatMap fun i => [thereB s i, backB s i]
def bnds (s : Sy) : List Bd := slipsL s s.tracks.length ++ stepsL s s.tracks.length ++ tiesL s s.ties.length
theorem fm_snoc {α : Type} (f : Nat → List α) (k : Nat) : (List.range (k + 1)).flatMap f = (List.range k).flatMap f ++ f k := by rw [List.range_succ, List.flatMap_append]; simp
theorem slipsT_succ (i : Nat) (t : Tk) (k : Nat) : slipsT i t (k + 1) = slipsT i t k ++ [upB i t k, downB i t k] := fm_snoc _ _
theorem slipsL_succ (s : Sy) (k : Nat) : slipsL s (k + 1) = slipsL s k ++ slipsT k (tkAt s k) (tkAt s k).times.length := fm_snoc _ _
theorem stepsT_succ (i : Nat) (t : Tk) (k : Nat) : stepsT i t (k + 1) = stepsT i t k ++ stepL i t k := fm_snoc _ _
theorem stepsL_succ (s : Sy) (k : Nat) : stepsL s (k + 1) = stepsL s k ++ stepsT k (tkAt s k) ((tkAt s k).times.length - 1) := fm_snoc _ _
theorem tiesL_succ (s : Sy) (k : Nat) : tiesL s (k + 1) = tiesL s k ++ [thereB s k, backB s k] := fm_snoc _ _
-- the places
def fstP (s : Sy) (k : Nat) : Nat := 1 + ((List.range k).map fun i => (tkAt s i).times.length).sum
theorem fstP_zero (s : Sy) : fstP s 0 = 1 := rfl
theorem fstP_succ (s : Sy) (k : Nat) : fstP s (k + 1) = fstP s k + (tkAt s k).times.length := by
  unfold fstP; rw [List.range_succ, List.map_append, List.sum_append]; simp; omega
def plc (s : Sy) (r : Rf) : Nat := if r.log < 0 then 0 else fstP s r.log.toNat + r.line.toNat
def nPl (s : Sy) : Nat := fstP s s.tracks.length
def egOf (s : Sy) (b : Bd) : Eg := (plc s b.frm, plc s b.to, b.most)
def egs (s : Sy) : List Eg := (bnds s).map (egOf s)
theorem fstP_mono (s : Sy) {a b : Nat} (h : a ≤ b) : fstP s a ≤ fstP s b := by
  induction h with
  | refl => exact Nat.le_refl _
  | step _ ih => rw [fstP_succ]; omega
/-- A line's place lies among those of its track. -/
theorem plc_line {s : Sy} {r : Rf} (h : lineB s r = true) : 1 ≤ plc s r ∧ plc s r < nPl s ∧ plc s r = fstP s r.log.toNat + r.line.toNat ∧ r.log.toNat < s.tracks.length ∧ r.line.toNat < (tkAt s r.log.toNat).times.length ∧ 0 ≤ r.log ∧ 0 ≤ r.line := by
  unfold lineB at h
  rw [Bool.and_eq_true] at h
  have h1 := wiB_iff.1 h.1
  have h2 := wiB_iff.1 h.2
  have e : plc s r = fstP s r.log.toNat + r.line.toNat := by unfold plc; rw [if_neg (by omega)]
  have a1 : fstP s 0 ≤ fstP s r.log.toNat := fstP_mono s (Nat.zero_le _)
  have a2 : fstP s (r.log.toNat + 1) ≤ nPl s := fstP_mono s (by omega)
  rw [fstP_zero] at a1
  rw [fstP_succ] at a2
  exact ⟨by omega, by omega, e, by omega, by omega, by omega, by omega⟩
/-- Different lines have different places. -/
theorem plc_inj {s : Sy} {r q : Rf} (h : lineB s r = true) (k : lineB s q = true) (e : plc s r = plc s q) : r = q := by
  obtain ⟨_, _, a1, a2, a3, a4, a5⟩ := plc_line h
  obtain ⟨_, _, b1, b2, b3, b4, b5⟩ := plc_line k
  have hl : r.log.toNat = q.log.toNat := by
    rcases Nat.lt_trichotomy r.log.toNat q.log.toNat with hl | hl | hl
    · have := fstP_mono s (show r.log.toNat + 1 ≤ q.log.toNat by omega)
      rw [fstP_succ] at this
      omega
    · exact hl
    · have := fstP_mono s (show q.log.toNat + 1 ≤ r.log.toNat by omega)
      rw [fstP_succ] at this
      omega
  rw [hl] at a1
  have h1 : r.log = q.log := by omega
  have h2 : r.line = q.line := by omega
  cases r; cases q; simp at h1 h2; rw [h1, h2]
theorem plc_beg (s : Sy) : plc s beg = 0 := rfl
theorem line_mk {s : Sy} {i j : Nat} (hi : i < s.tracks.length) (hj : j < (tkAt s i).times.length) : lineB s ⟨i, j⟩ = true := by
  unfold lineB
  rw [Bool.and_eq_true, wiB_iff, wiB_iff]
  simp only [Int.toNat_natCast]
  omega
end Go.Proofs.YtodmbcoobjcooaaDoor

namespace Go.Proofs.YtodmbcoobjcooaaDoor
open Go Go.RowKit
theorem heap_keep {w w' : World} (k : New w w') {g : Nat} {o : Obj} (h : w.heap[g]? = some o) : w'.heap[g]? = some o := (k.out.block g (Array.getElem?_eq_some_iff.1 h).1).trans h
theorem lt_of_cell {w : World} {b i : Nat} {v : Value} (h : w.cell? ⟨b, i, none⟩ = some v) : b < w.heap.size := World.block_lt_of_cell? w _ h
theorem New.cellOf {w w' : World} (h : New w w') {b i : Nat} {v : Value} (hc : w.cell? ⟨b, i, none⟩ = some v) : w'.cell? ⟨b, i, none⟩ = some v := (h.cell (p := ⟨b, i, none⟩) (lt_of_cell hc)).trans hc
theorem grown_of {w w' : World} (h : New w w') (r : Option Nat) : w.grownBy w' r := ⟨h.out.os, h.out.tape, h.out.output, h.size, fun k hk _ => h.out.block k hk⟩
/-- Block g holds just these cells, none of them frozen. -/
def RowIs (w : World) (g : Nat) (e : TypeId) (cs : List Value) : Prop := w.heap[g]? = some (.cells cs.toArray e (0, 0))
theorem RowIs.new (w : World) (e : TypeId) (cs : List Value) : RowIs (w.alloc (.cells cs.toArray e)) w.heap.size e cs := heap_alloc_new w _
theorem RowIs.zeros (w : World) (e : TypeId) (n : Nat) (z : Value) : RowIs (w.alloc (.cells (Array.replicate n z) e)) w.heap.size e (List.replicate n z) := by
  rw [← List.toArray_replicate]
  exact RowIs.new w e _
theorem RowIs.lt {w : World} {g : Nat} {e : TypeId} {cs : List Value} (h : RowIs w g e cs) : g < w.heap.size := (Array.getElem?_eq_some_iff.1 h).1
theorem RowIs.keep {w w' : World} {g : Nat} {e : TypeId} {cs : List Value} (h : RowIs w g e cs) (k : New w w') : RowIs w' g e cs := heap_keep k h
theorem RowIs.cell {w : World} {g : Nat} {e : TypeId} {cs : List Value} (h : RowIs w g e cs) {i : Nat} {v : Value} (hv : cs[i]? = some v) : w.cell? ⟨g, i, none⟩ = some v := by
  rw [cell_of_row w g i _ _ _ h, List.getElem?_toArray, hv]
theorem RowIs.free {w : World} {g : Nat} {e : TypeId} {cs : List Value} (h : RowIs w g e cs) (i : Nat) : w.frozen? ⟨g, i, none⟩ = false := by
  unfold RowIs at h
  simp [World.frozen?, h]
theorem RowIs.put {w : World} {g : Nat} {e : TypeId} {cs : List Value} (h : RowIs w g e cs) (i : Nat) (v : Value) : RowIs (w.setCell ⟨g, i, none⟩ v) g e (cs.set i v) := by
  unfold RowIs at h ⊢
  simp [World.setCell, Array.getElem?_modify, h]
theorem RowIs.other {w : World} {g k : Nat} {e : TypeId} {cs : List Value} (h : RowIs w g e cs) (hne : k ≠ g) (i : Nat) (v : Value) : RowIs (w.setCell ⟨k, i, none⟩ v) g e cs := by
  unfold RowIs at h ⊢
  simp [World.setCell, Array.getElem?_modify, h, hne]
theorem RowIs.drew {w : World} {g : Nat} {e : TypeId} {cs : List Value} (h : RowIs w g e cs) : RowIs w.drew g e cs := h
theorem made_rep (z : Value) (hz : z.cells = #[z]) (n : Nat) : madeCells z.cells (n * 1) = (List.replicate n z).toArray := by
  apply Array.ext
  · rw [size_madeCells]; simp
  · intro i h1 h2
    simp [madeCells, hz, Nat.mod_one]
/-- make([]T, n) at values of one cell: a new block of zero values. -/
theorem make_row {P : Program} {t e : TypeId} {z : Value} {bytes : Nat} (ht : P.underlying t = some (.slice e)) (hi : (P.info? e).map (fun i => (i.zero, i.size, i.bytes)) = some (some z, 1, bytes)) (hz : z.cells = #[z]) (hb : bytes ≤ 24) (n : Nat) (hn : n ≤ 1000000) (w : World) :
    (Instr.makeSlice t (.int .i64 n) (.int .i64 n)).run P w = .ok (.slice (some ⟨w.heap.size, 0, none⟩) n n) (w.alloc (.cells (Array.replicate n z) e)) := by
  obtain ⟨i, h1, h2, h3, h4⟩ := info_parts hi
  have hbb : (i.bytes : Int) * (n : Int) ≤ 281474976710656 := by
    rw [h4]
    have h6 : bytes * n ≤ 24 * 1000000 := Nat.mul_le_mul hb hn
    rw [← Int.natCast_mul]
    omega
  rw [run_make w t e i z ht h1 h2 .i64 .i64 n n (by omega) (by omega) hbb (by omega), h3]
  simp only [Int.toNat_natCast]
  rw [made_rep z hz, List.toArray_replicate]
/-- Numbers in memory. -/
def IntsA (w : World) (A : Option Addr) (l : List Int) : Prop :=
  l.length ≤ 9223372036854775807 ∧ (0 < l.length → ∃ b off, A = some ⟨b, off, none⟩ ∧ b < w.heap.size ∧ ∀ i, i < l.length → w.cell? ⟨b, off + i, none⟩ = some (.int .i64 (l[i]?.getD 0)))
theorem IntsA.keep {w w' : World} {A : Option Addr} {l : List Int} (h : IntsA w A l) (k : New w w') : IntsA w' A l :=
  ⟨h.1, fun h0 => by
    obtain ⟨b, off, e, hb, hc⟩ := h.2 h0
    exact ⟨b, off, e, Nat.lt_of_lt_of_le hb k.size, fun i hi => (k.cell (p := ⟨b, off + i, none⟩) hb).trans (hc i hi)⟩⟩
theorem IntsA.nil (w : World) (A : Option Addr) : IntsA w A [] := ⟨by simp, fun h => absurd h (by simp)⟩
/-- A track in memory. -/
def TkC (w : World) (b o : Nat) (t : Tk) : Prop :=
  ∃ JA jc TA tc, w.cell? ⟨b, o, none⟩ = some (.int .i64 t.slip) ∧ w.cell? ⟨b, o + 1, none⟩ = some (.int .i64 t.drift) ∧ w.cell? ⟨b, o + 2, none⟩ = some (.slice JA t.jumps.length jc) ∧ w.cell? ⟨b, o + 3, none⟩ = some (.slice TA t.times.length tc) ∧ IntsA w JA t.jumps ∧ IntsA w TA t.times
theorem TkC.keep {w w' : World} {b o : Nat} {t : Tk} (h : TkC w b o t) (k : New w w') : TkC w' b o t := by
  obtain ⟨JA, jc, TA, tc, h1, h2, h3, h4, h5, h6⟩ := h
  exact ⟨JA, jc, TA, tc, k.cellOf h1, k.cellOf h2, k.cellOf h3, k.cellOf h4, h5.keep k, h6.keep k⟩
def TksA (w : World) (A : Option Addr) (l : List Tk) : Prop :=
  l.length ≤ 9223372036854775807 ∧ (0 < l.length → ∃ b off, A = some ⟨b, off, none⟩ ∧ b < w.heap.size ∧ ∀ i, i < l.length → TkC w b (off + i * 4) (l[i]?.getD default))
theorem TksA.keep {w w' : World} {A : Option Addr} {l : List Tk} (h : TksA w A l) (k : New w w') : TksA w' A l :=
  ⟨h.1, fun h0 => by
    obtain ⟨b, off, e, hb, hc⟩ := h.2 h0
    exact ⟨b, off, e, Nat.lt_of_lt_of_le hb k.size, fun i hi => (hc i hi).keep k⟩⟩
/-- A tie in memory. -/
def TiC (w : World) (b o : Nat) (t : Ti) : Prop :=
  w.cell? ⟨b, o, none⟩ = some (.int .i64 t.a.log) ∧ w.cell? ⟨b, o + 1, none⟩ = some (.int .i64 t.a.line) ∧ w.cell? ⟨b, o + 2, none⟩ = some (.int .i64 t.b.log) ∧ w.cell? ⟨b, o + 3, none⟩ = some (.int .i64 t.b.line)
theorem TiC.keep {w w' : World} {b o : Nat} {t : Ti} (h : TiC w b o t) (k : New w w') : TiC w' b o t := ⟨k.cellOf h.1, k.cellOf h.2.1, k.cellOf h.2.2.1, k.cellOf h.2.2.2⟩
def TisA (w : World) (A : Option Addr) (l : List Ti) : Prop :=
  l.length ≤ 9223372036854775807 ∧ (0 < l.length → ∃ b off, A = some ⟨b, off, none⟩ ∧ b < w.heap.size ∧ ∀ i, i < l.length → TiC w b (off + i * 4) (l[i]?.getD default))
theorem TisA.keep {w w' : World} {A : Option Addr} {l : List Ti} (h : TisA w A l) (k : New w w') : TisA w' A l :=
  ⟨h.1, fun h0 => by
    obtain ⟨b, off, e, hb, hc⟩ := h.2 h0
    exact ⟨b, off, e, Nat.lt_of_lt_of_le hb k.size, fun i hi => (hc i hi).keep k⟩⟩
theorem TisA.nil (w : World) (A : Option Addr) : TisA w A [] := ⟨by simp, fun h => absurd h (by simp)⟩
/-- A system in memory: where its tracks and its ties lie. -/
def SysM (w : World) (A D : Option Addr) (s : Sy) : Prop := TksA w A s.tracks ∧ TisA w D s.ties
theorem SysM.keep {w w' : World} {A D : Option Addr} {s : Sy} (h : SysM w A D s) (k : New w w') : SysM w' A D s := ⟨h.1.keep k, h.2.keep k⟩
/-- A track, as a value. -/
def TkM (w : World) (JA TA : Option Addr) (t : Tk) : Prop := IntsA w JA t.jumps ∧ IntsA w TA t.times
theorem TkM.keep {w w' : World} {JA TA : Option Addr} {t : Tk} (h : TkM w JA TA t) (k : New w w') : TkM w' JA TA t := ⟨h.1.keep k, h.2.keep k⟩
theorem getD_get {α : Type} [Inhabited α] {l : List α} {i : Nat} (h : i < l.length) : l[i]?.getD default = l[i] := by rw [List.getElem?_eq_getElem h]; rfl
theorem drop_at {α : Type} [Inhabited α] {l : List α} {i : Nat} (h : i < l.length) : l.drop i = (l[i]?.getD default) :: l.drop (i + 1) := by rw [getD_get h]; exact List.drop_eq_getElem_cons h
theorem drop_int {l : List Int} {i : Nat} (h : i < l.length) : l.drop i = (l[i]?.getD 0) :: l.drop (i + 1) := drop_at h
theorem take_at {α : Type} [Inhabited α] {l : List α} {i : Nat} (h : i < l.length) : l.take (i + 1) = l.take i ++ [l[i]?.getD default] := by rw [getD_get h]; exact List.take_succ_eq_append_getElem h
end Go.Proofs.YtodmbcoobjcooaaDoor

namespace Go.Proofs.YtodmbcoobjcooaaDoor
open Go Go.RowKit
theorem ck_within (n lo hi : Int) (w : World) : Calls Tryd.prog 65 #[.int .i64 n, .int .i64 lo, .int .i64 hi] w fun e w' => e = .returned (.bool (wiB n lo hi)) ∧ w = w' := by
  by_cases h1 : lo ≤ n
  · go_enter Tryd.func65, Tryd.ntmps65
    go_wp2_with fail
    go_ret
    exact ⟨ret_bool (by simp [wiB, h1]), rfl⟩
  · have h1' : decide (lo ≤ n) = false := by simpa using h1
    go_enter Tryd.func65, Tryd.ntmps65
    go_wp2_with fail
    go_ret
    exact ⟨ret_bool (by simp only [wiB, h1', Bool.false_and]), rfl⟩
theorem ck_withinIs {n lo hi : Int} {x : Bool} (h : wiB n lo hi = x) (w : World) : Calls Tryd.prog 65 #[.int .i64 n, .int .i64 lo, .int .i64 hi] w fun e w' => e = .returned (.bool x) ∧ w = w' := h ▸ ck_within n lo hi w
theorem seg_snoc {l : List Int} {k : Nat} (h : k < l.length) (m : Int) : segN (l.take (k + 1)) m = segN (l.take k) m + if l[k]?.getD 0 ≤ m then 1 else 0 := by
  have e : l.take (k + 1) = l.take k ++ [l[k]?.getD 0] := take_at h
  rw [e, segN, List.countP_append]
  simp [segN, List.countP_cons]
theorem seg_le (l : List Int) (m : Int) : segN l m ≤ l.length := List.countP_le_length
set_option maxHeartbeats 800000 in
theorem ck_segment (a d m : Int) (J : Option Addr) (c : Nat) (l : List Int) (w : World) (hJ : IntsA w J l) :
    Calls Tryd.prog 66 #[.agg #[.int .i64 a, .int .i64 d, .slice J l.length c], .int .i64 m] w fun e w' => e = .returned (.int .i64 (segN l m)) ∧ New w w' := by
  have hn := (New.refl w).alloc (.cells #[.int .i64 a, .int .i64 d, .slice J l.length c] 28)
  have hm := hJ.1
  have HJ := Lib.hid (hJ.keep hn)
  have HN := Lib.hid hn
  clear hJ hn
  go_enter Tryd.func66, Tryd.ntmps66
  go_wp2_with fail
  go_loop [5, 11] (fun n i => ∃ k : Nat, k ≤ l.length ∧ i = .int .i64 k ∧ n = .int .i64 (segN (l.take k) m)) (fun _ i => l.length - (intOf i).toNat)
  case atStart => exact ⟨0, Nat.zero_le _, rfl, rfl⟩
  case round =>
    obtain ⟨k, hk, rfl, rfl⟩ := hrel
    have hle := seg_le (l.take k) m
    have hl : (l.take k).length ≤ k := List.length_take_le _ _
    by_cases hlt : k < l.length
    · obtain ⟨b, off, rfl, -, hc⟩ := HJ.out.2 (by omega)
      have z := hc k hlt
      have HS := Lib.hid (seg_snoc hlt m)
      clear hc
      generalize l[k]?.getD 0 = x at *
      by_cases hx : x ≤ m
      · rw [if_pos hx] at HS
        go_wp2_with fail
        go_round
        case rel => exact ⟨k + 1, by omega, by go_num, by rw [HS.out]; go_num⟩
        case measure => simp [intOf]; omega
      · rw [if_neg hx] at HS
        have hx' : decide (x ≤ m) = false := by simpa using hx
        go_wp2_with fail
        go_round
        case rel => exact ⟨k + 1, by omega, by go_num, by rw [HS.out]; rfl⟩
        case measure => simp [intOf]; omega
    · have h2 : l.take k = l := List.take_of_length_le (by omega)
      rw [h2]
      clear h2 hle hl
      go_wp2_with fail
      go_ret
      exact ⟨rfl, HN.out⟩
theorem jumps_drop {l : List Int} {k : Nat} (h : k < l.length) (last : Int) : jumpsB last (l.drop k) = (wiB (l[k]?.getD 0) (last + 1) 20000 && jumpsB (l[k]?.getD 0) (l.drop (k + 1))) := by rw [drop_int h, jumpsB]
theorem times_drop {l : List Int} {k : Nat} (h : k < l.length) (last : Int) : timesB last (l.drop k) = (wiB (l[k]?.getD 0) last 20000 && timesB (l[k]?.getD 0) (l.drop (k + 1))) := by rw [drop_int h, timesB]
set_option maxHeartbeats 1000000 in
theorem ck_ValidClock (t : Tk) (J : Option Addr) (c : Nat) (w : World) (hJ : IntsA w J t.jumps) :
    Calls Tryd.prog 21 #[.agg #[.int .i64 t.slip, .int .i64 t.drift, .slice J t.jumps.length c]] w fun e w' => e = .returned (.bool (clockB t)) ∧ New w w' := by
  obtain ⟨a, d, l, times⟩ := t
  dsimp only at hJ ⊢
  have hn := (New.refl w).alloc (.cells #[.int .i64 a, .int .i64 d, .slice J l.length c] 28)
  have hr := RowIs.new w 28 [.int .i64 a, .int .i64 d, .slice J l.length c]
  have hm := hJ.1
  have HJ := Lib.hid (hJ.keep hn)
  have HN := Lib.hid hn
  have HR := Lib.hid hr
  have HB : Hid (clockB ⟨a, d, l, times⟩ = (jumpsB (-1) l && (wiB a 0 1440 && (wiB d 0 100 && decide (l.length ≤ 16))))) := Lib.hid rfl
  clear hJ hn hr
  go_enter Tryd.func21, Tryd.ntmps21
  go_wp2_with fail
  go_loop [3, 9] (fun last i => ∃ (k : Nat) (p : Int), k ≤ l.length ∧ i = .int .i64 k ∧ last = .int .i64 p ∧ -1 ≤ p ∧ p ≤ 20000 ∧ jumpsB (-1) l = jumpsB p (l.drop k)) (fun _ i => l.length - (intOf i).toNat)
  case atStart => exact ⟨0, -1, Nat.zero_le _, rfl, rfl, by omega, by omega, rfl⟩
  case round =>
    obtain ⟨k, p, hk, rfl, rfl, hp, hp2, hj⟩ := hrel
    have HK := Lib.hid hj
    clear hj
    by_cases hlt : k < l.length
    · obtain ⟨b, off, rfl, -, hc⟩ := HJ.out.2 (by omega)
      have z := hc k hlt
      have HS := Lib.hid (HK.out.trans (jumps_drop hlt p))
      clear hc HK
      generalize l[k]?.getD 0 = x at *
      cases hw : wiB x (p + 1) 20000 with
      | true =>
        rw [hw, Bool.true_and] at HS
        have hq := wiB_iff.1 hw
        have HW := Lib.hid hw
        clear hw
        go_wp2_with (go_at_call 65; refine (ck_withinIs HW.out _).mono ?_; rintro e w' ⟨rfl, rfl⟩)
        go_round
        case rel => exact ⟨k + 1, _, by omega, by go_num, rfl, by omega, hq.2, HS.out⟩
        case measure => simp [intOf]; omega
      | false =>
        rw [hw, Bool.false_and] at HS
        have HW := Lib.hid hw
        clear hw
        go_wp2_with (go_at_call 65; refine (ck_withinIs HW.out _).mono ?_; rintro e w' ⟨rfl, rfl⟩)
        go_ret
        exact ⟨ret_bool (by rw [HB.out, HS.out]; rfl), HN.out⟩
    · have h2 : l.drop k = [] := List.drop_of_length_le (by omega)
      rw [h2] at HK
      have HJT : Hid (jumpsB (-1) l = true) := Lib.hid HK.out
      clear h2 HK
      rw [HJT.out, Bool.true_and] at HB
      have c0 := HR.out.cell (i := 0) rfl
      have c1 := HR.out.cell (i := 1) rfl
      have c2 := HR.out.cell (i := 2) rfl
      cases h1 : wiB a 0 1440 with
      | false =>
        rw [h1, Bool.false_and] at HB
        have H1 := Lib.hid h1
        clear h1
        go_wp2_with (go_at_call 65; refine (ck_withinIs H1.out _).mono ?_; rintro e w' ⟨rfl, rfl⟩)
        go_ret
        exact ⟨ret_bool HB.out.symm, HN.out⟩
      | true =>
        rw [h1, Bool.true_and] at HB
        have H1 := Lib.hid h1
        clear h1
        cases h3 : wiB d 0 100 with
        | false =>
          rw [h3, Bool.false_and] at HB
          have H3 := Lib.hid h3
          clear h3
          go_wp2_with (first | (go_at_call 65; (with_reducible refine (ck_withinIs H1.out _).mono ?_); rintro e w' ⟨rfl, rfl⟩) | (go_at_call 65; (with_reducible refine (ck_withinIs H3.out _).mono ?_); rintro e w' ⟨rfl, rfl⟩))
          go_ret
          exact ⟨ret_bool HB.out.symm, HN.out⟩
        | true =>
          rw [h3, Bool.true_and] at HB
          have H3 := Lib.hid h3
          clear h3
          go_wp2_with (first | (go_at_call 65; (with_reducible refine (ck_withinIs H1.out _).mono ?_); rintro e w' ⟨rfl, rfl⟩) | (go_at_call 65; (with_reducible refine (ck_withinIs H3.out _).mono ?_); rintro e w' ⟨rfl, rfl⟩))
          go_ret
          exact ⟨ret_bool (by rw [HB.out]; simp; omega), HN.out⟩
set_option maxHeartbeats 1000000 in
theorem ck_ValidTrack (t : Tk) (J T : Option Addr) (c d : Nat) (w : World) (hJ : TkM w J T t) :
    Calls Tryd.prog 23 #[.agg #[.int .i64 t.slip, .int .i64 t.drift, .slice J t.jumps.length c, .slice T t.times.length d]] w fun e w' => e = .returned (.bool (trackB t)) ∧ New w w' := by
  have HV : Hid (∀ w', New w w' → Calls Tryd.prog 21 #[.agg #[.int .i64 t.slip, .int .i64 t.drift, .slice J t.jumps.length c]] w' fun e w'' => e = .returned (.bool (clockB t)) ∧ New w' w'') := Lib.hid (fun w' hn => ck_ValidClock t J c w' (hJ.1.keep hn))
  have HB : Hid (trackB t = (timesB 0 t.times && (clockB t && decide (t.times.length ≤ 400)))) := Lib.hid rfl
  have hT := hJ.2
  clear hJ
  generalize clockB t = cb at *
  generalize trackB t = tb at *
  obtain ⟨a, f, js, l⟩ := t
  dsimp only at HV HB hT ⊢
  have hn := (New.refl w).alloc (.cells #[.int .i64 a, .int .i64 f, .slice J js.length c, .slice T l.length d] 30)
  have hr := RowIs.new w 30 [.int .i64 a, .int .i64 f, .slice J js.length c, .slice T l.length d]
  have hm := hT.1
  have HT := Lib.hid (hT.keep hn)
  have HN := Lib.hid hn
  have HR := Lib.hid hr
  clear hT hn hr
  go_enter Tryd.func23, Tryd.ntmps23
  go_wp2_with fail
  go_loop [3, 9] (fun last i => ∃ (k : Nat) (p : Int), k ≤ l.length ∧ i = .int .i64 k ∧ last = .int .i64 p ∧ 0 ≤ p ∧ p ≤ 20000 ∧ timesB 0 l = timesB p (l.drop k)) (fun _ i => l.length - (intOf i).toNat)
  case atStart => exact ⟨0, 0, Nat.zero_le _, rfl, rfl, by omega, by omega, rfl⟩
  case round =>
    obtain ⟨k, p, hk, rfl, rfl, hp, hp2, hj⟩ := hrel
    have HK := Lib.hid hj
    clear hj
    by_cases hlt : k < l.length
    · obtain ⟨b, off, rfl, -, hc⟩ := HT.out.2 (by omega)
      have z := hc k hlt
      have HS := Lib.hid (HK.out.trans (times_drop hlt p))
      clear hc HK
      generalize l[k]?.getD 0 = x at *
      cases hw : wiB x p 20000 with
      | true =>
        rw [hw, Bool.true_and] at HS
        have hq := wiB_iff.1 hw
        have HW := Lib.hid hw
        clear hw
        go_wp2_with (go_at_call 65; refine (ck_withinIs HW.out _).mono ?_; rintro e w' ⟨rfl, rfl⟩)
        go_round
        case rel => exact ⟨k + 1, _, by omega, by go_num, rfl, by omega, hq.2, HS.out⟩
        case measure => simp [intOf]; omega
      | false =>
        rw [hw, Bool.false_and] at HS
        have HW := Lib.hid hw
        clear hw
        go_wp2_with (go_at_call 65; refine (ck_withinIs HW.out _).mono ?_; rintro e w' ⟨rfl, rfl⟩)
        go_ret
        exact ⟨ret_bool (by rw [HB.out, HS.out]; rfl), HN.out⟩
    · have h2 : l.drop k = [] := List.drop_of_length_le (by omega)
      rw [h2] at HK
      have HJT : Hid (timesB 0 l = true) := Lib.hid HK.out
      clear h2 HK
      rw [HJT.out, Bool.true_and] at HB
      have c0 := HR.out.cell (i := 0) rfl
      have c1 := HR.out.cell (i := 1) rfl
      have c2 := HR.out.cell (i := 2) rfl
      have c3 := HR.out.cell (i := 3) rfl
      go_wp2_with fail
      refine (HV.out _ HN.out).mono ?_
      rintro e w1 ⟨rfl, h1⟩
      have d3 := (HR.out.keep h1).cell (i := 3) rfl
      replace HN := Lib.hid (HN.out.trans h1)
      clear c0 c1 c2 c3 h1
      cases cb with
      | false =>
        rw [Bool.false_and] at HB
        go_wp2_with fail
        go_ret
        exact ⟨ret_bool HB.out.symm, HN.out⟩
      | true =>
        rw [Bool.true_and] at HB
        go_wp2_with fail
        go_ret
        exact ⟨ret_bool (by rw [HB.out]; simp; omega), HN.out⟩
end Go.Proofs.YtodmbcoobjcooaaDoor

namespace Go.Proofs.YtodmbcoobjcooaaDoor
open Go Go.RowKit
abbrev sysV (A D : Option Addr) (n c m d : Nat) (win : Int) : Value := .agg #[.slice A n c, .slice D m d, .int .i64 win]
abbrev rfV (r : Rf) : Value := .agg #[.int .i64 r.log, .int .i64 r.line]
set_option maxHeartbeats 1000000 in
theorem ck_isLine (s : Sy) (r : Rf) (A D : Option Addr) (c m d : Nat) (win : Int) (w : World) (hA : TksA w A s.tracks) :
    Calls Tryd.prog 118 #[.agg #[.slice A s.tracks.length c, .slice D m d, .int .i64 win], .agg #[.int .i64 r.log, .int .i64 r.line]] w fun e w' => e = .returned (.bool (lineB s r)) ∧ New w w' := by
  have HB : Hid (lineB s r = (wiB r.log 0 ((s.tracks.length : Int) - 1) && wiB r.line 0 (((tkAt s r.log.toNat).times.length : Int) - 1))) := Lib.hid rfl
  generalize lineB s r = lb at *
  obtain ⟨lg, ln⟩ := r
  unfold tkAt at HB
  obtain ⟨l, ties, win2⟩ := s
  dsimp only at HB hA ⊢
  have hn := ((New.refl w).alloc (.cells #[.slice A l.length c, .slice D m d, .int .i64 win] 25)).alloc (.cells #[.int .i64 lg, .int .i64 ln] 53)
  have r1 := (RowIs.new w 25 [.slice A l.length c, .slice D m d, .int .i64 win]).keep ((New.refl _).alloc (.cells #[.int .i64 lg, .int .i64 ln] 53))
  have r2 := RowIs.new (w.alloc (.cells #[.slice A l.length c, .slice D m d, .int .i64 win] 25)) 53 [.int .i64 lg, .int .i64 ln]
  have hz : (w.alloc (.cells #[.slice A l.length c, .slice D m d, .int .i64 win] 25)).heap.size = w.heap.size + 1 := by simp
  rw [hz] at r2
  clear hz
  have c0 := r1.cell (i := 0) rfl
  have e0 := r2.cell (i := 0) rfl
  have e1 := r2.cell (i := 1) rfl
  have hm := hA.1
  have hw1 : IntKind.i64.wrap ((l.length : Int) - 1) = (l.length : Int) - 1 := IntWalk.i64_in _ (by omega)
  have HA := Lib.hid (hA.keep hn)
  have HN := Lib.hid hn
  clear hA r1 r2
  cases h1 : wiB lg 0 ((l.length : Int) - 1) with
  | false =>
    rw [h1, Bool.false_and] at HB
    have H1 := Lib.hid h1
    clear h1
    go_enter Tryd.func118, Tryd.ntmps118
    go_wp2_with fail
    go_quiet ((go_at_call 65; exact quiet_same (ck_withinIs H1.out _)))
    go_wp2_with fail
    go_ret
    exact ⟨ret_bool HB.out.symm, HN.out.drewN _⟩
  | true =>
    rw [h1, Bool.true_and] at HB
    have hq := wiB_iff.1 h1
    obtain ⟨i, rfl⟩ := Int.eq_ofNat_of_zero_le hq.1
    rw [Int.toNat_natCast] at HB
    have H1 := Lib.hid h1
    clear h1
    have hi : i < l.length := by omega
    obtain ⟨b, off, rfl, -, hc⟩ := HA.out.2 (by omega)
    obtain ⟨JA, jc, TA, tc, -, -, -, z, -, hT⟩ := hc i hi
    have hT1 := hT.1
    clear hc hT
    generalize (l[i]?.getD default).times = ts at *
    have hw2 : IntKind.i64.wrap ((ts.length : Int) - 1) = (ts.length : Int) - 1 := IntWalk.i64_in _ (by omega)
    have i1 : (i : Int) < (l.length : Int) := by omega
    have i2 : (0 : Int) ≤ (i : Int) := by omega
    cases h3 : wiB ln 0 ((ts.length : Int) - 1) with
    | false =>
      rw [h3] at HB
      have H3 := Lib.hid h3
      clear h3 hq
      go_enter Tryd.func118, Tryd.ntmps118
      go_wp2_with fail
      go_quiet ((first | (go_at_call 65; with_reducible exact quiet_same (ck_withinIs H1.out _)) | (go_at_call 65; with_reducible exact quiet_same (ck_withinIs H3.out _))))
      go_wp2_with fail
      go_ret
      exact ⟨ret_bool HB.out.symm, HN.out.drewN _⟩
    | true =>
      rw [h3] at HB
      have H3 := Lib.hid h3
      clear h3 hq
      go_enter Tryd.func118, Tryd.ntmps118
      go_wp2_with fail
      go_quiet ((first | (go_at_call 65; with_reducible exact quiet_same (ck_withinIs H1.out _)) | (go_at_call 65; with_reducible exact quiet_same (ck_withinIs H3.out _))))
      go_wp2_with fail
      go_ret
      exact ⟨ret_bool HB.out.symm, HN.out.drewN _⟩
end Go.Proofs.YtodmbcoobjcooaaDoor

namespace Go.Proofs.YtodmbcoobjcooaaDoor
open Go Go.RowKit
theorem any_snoc {α : Type} [Inhabited α] {l : List α} {k : Nat} (h : k < l.length) (f : α → Bool) : (l.take (k + 1)).any f = ((l.take k).any f || f (l[k]?.getD default)) := by
  rw [take_at h, List.any_append]; simp
theorem any_of_at {α : Type} [Inhabited α] {l : List α} {k : Nat} (h : k < l.length) {f : α → Bool} (hf : f (l[k]?.getD default) = true) : l.any f = true := by
  rw [getD_get h] at hf
  exact List.any_eq_true.2 ⟨_, List.getElem_mem h, hf⟩
def errB (b : Bool) : Value := .int .i64 (if b then 1 else 0)
set_option maxHeartbeats 2000000 in
theorem ck_checkTies (s : Sy) (A D L : Option Addr) (c m d lc : Nat) (win : Int) (l : List Ti) (w : World) (hA : TksA w A s.tracks) (hL : TisA w L l) :
    Calls Tryd.prog 71 #[.agg #[.slice A s.tracks.length c, .slice D m d, .int .i64 win], .slice L l.length lc] w fun e w' => e = .returned (.int .i64 (tiesE s l)) ∧ New w w' := by
  have hn := (New.refl w).alloc (.cells #[.slice A s.tracks.length c, .slice D m d, .int .i64 win] 25)
  have HR := Lib.hid (RowIs.new w 25 [.slice A s.tracks.length c, .slice D m d, .int .i64 win])
  have hm := hL.1
  have HA := Lib.hid (hA.keep hn)
  have HL := Lib.hid (hL.keep hn)
  have HN := Lib.hid hn
  have HE : Hid (tiesE s l = if l.any (tieNone s) then 3 else if l.any tieArg then 1 else 0) := Lib.hid rfl
  have HI : Hid (∀ w' r, TksA w' A s.tracks → Calls Tryd.prog 118 #[.agg #[.slice A s.tracks.length c, .slice D m d, .int .i64 win], .agg #[.int .i64 r.log, .int .i64 r.line]] w' fun e w'' => e = .returned (.bool (lineB s r)) ∧ New w' w'') := Lib.hid (fun w' r h => ck_isLine s r A D c m d win w' h)
  clear hA hL hn
  generalize tiesE s l = te at *
  generalize hfn : tieNone s = fn at *
  have HF : Hid (∀ t, fn t = (!lineB s t.a || !lineB s t.b)) := Lib.hid (fun t => by rw [← hfn]; rfl)
  clear hfn
  generalize s.tracks = tks at *
  generalize lineB s = lb at *
  go_enter Tryd.func71, Tryd.ntmps71
  go_wp2_with fail
  generalize hW0 : w.alloc (.cells #[.slice A tks.length c, .slice D m d, .int .i64 win] 25) = W at *
  go_loopw [5, 10] (fun e i wr => ∃ k : Nat, k ≤ l.length ∧ i = .int .i64 k ∧ e = errB ((l.take k).any tieArg) ∧ (l.take k).any fn = false ∧ New W wr) (fun _ i _ => l.length - (intOf i).toNat)
  case atStart => exact ⟨0, Nat.zero_le _, rfl, rfl, rfl, New.refl W⟩
  case round =>
    obtain ⟨k, hk, rfl, rfl, h0, hnw⟩ := hrel
    have H0 := Lib.hid h0
    have HNW := Lib.hid hnw
    clear h0 hnw
    by_cases hlt : k < l.length
    · obtain ⟨b, off, rfl, -, hc⟩ := HL.out.2 (by omega)
      obtain ⟨z0, z1, z2, z3⟩ := (hc k hlt).keep HNW.out
      have HS1 := Lib.hid (any_snoc hlt tieArg)
      have HS2 := Lib.hid (any_snoc hlt fn)
      have HS3 : Hid (fn (l[k]?.getD default) = true → l.any fn = true) := Lib.hid (any_of_at hlt)
      clear hc
      generalize l[k]?.getD default = t at *
      obtain ⟨⟨al, ai⟩, ⟨bl, bi⟩⟩ := t
      dsimp only at z0 z1 z2 z3
      have hv := HF.out ⟨⟨al, ai⟩, ⟨bl, bi⟩⟩
      dsimp only at hv
      rw [hv] at HS2 HS3
      clear hv
      have HRW := Lib.hid (HR.out.keep HNW.out)
      have HN2 := Lib.hid ((New.refl wr).alloc (.cells #[.int .i64 al, .int .i64 ai, .int .i64 bl, .int .i64 bi] 79))
      have HRT := Lib.hid (RowIs.new wr 79 [.int .i64 al, .int .i64 ai, .int .i64 bl, .int .i64 bi])
      have c0 := (HRW.out.keep HN2.out).cell (i := 0) rfl
      have c1 := (HRW.out.keep HN2.out).cell (i := 1) rfl
      have c2 := (HRW.out.keep HN2.out).cell (i := 2) rfl
      go_wp2_with fail
      refine (HI.out _ ⟨al, ai⟩ (HA.out.keep (HNW.out.trans HN2.out))).mono ?_
      rintro e w1 ⟨rfl, h1⟩
      have HN3 := Lib.hid (HN2.out.trans h1)
      have HRT1 := Lib.hid (HRT.out.keep h1)
      clear c0 c1 c2 h1 HN2 HRT
      have c0 := (HRW.out.keep HN3.out).cell (i := 0) rfl
      have c1 := (HRW.out.keep HN3.out).cell (i := 1) rfl
      have c2 := (HRW.out.keep HN3.out).cell (i := 2) rfl
      have t0 := HRT1.out.cell (i := 0) rfl
      have t1 := HRT1.out.cell (i := 1) rfl
      have t2 := HRT1.out.cell (i := 2) rfl
      have t3 := HRT1.out.cell (i := 3) rfl
      cases hla : lb ⟨al, ai⟩ with
      | false =>
        rw [hla] at HS3
        go_wp2_with fail
        go_ret
        exact ⟨ret_int (by rw [HE.out, HS3.out rfl]; rfl), HN.out.trans (HNW.out.trans HN3.out)⟩
      | true =>
        rw [hla] at HS2 HS3
        clear hla
        go_wp2_with fail
        refine (HI.out _ ⟨bl, bi⟩ (HA.out.keep (HNW.out.trans HN3.out))).mono ?_
        rintro e w2 ⟨rfl, h2⟩
        have HN4 := Lib.hid (HN3.out.trans h2)
        have HRT2 := Lib.hid (HRT1.out.keep h2)
        clear c0 c1 c2 t0 t1 t2 t3 h2
        have t0 := HRT2.out.cell (i := 0) rfl
        have t2 := HRT2.out.cell (i := 2) rfl
        cases hlb : lb ⟨bl, bi⟩ with
        | false =>
          rw [hlb] at HS3
          go_wp2_with fail
          go_ret
          exact ⟨ret_int (by rw [HE.out, HS3.out rfl]; rfl), HN.out.trans (HNW.out.trans HN4.out)⟩
        | true =>
          rw [hlb] at HS2
          clear hlb
          have HS2' : Hid ((l.take (k + 1)).any fn = false) := Lib.hid (by rw [HS2.out, H0.out]; rfl)
          by_cases he : al = bl
          · subst he
            have HS1' : Hid ((l.take (k + 1)).any tieArg = true) := Lib.hid (by rw [HS1.out]; simp [tieArg])
            go_wp2_with fail
            go_roundw
            case rel => exact ⟨k + 1, by omega, by go_num, by rw [HS1'.out]; rfl, HS2'.out, HNW.out.trans HN4.out⟩
            case measure => simp [intOf]; omega
          · have he' : (al == bl) = false := by simpa using he
            have HS1' : Hid ((l.take (k + 1)).any tieArg = (l.take k).any tieArg) := Lib.hid (by rw [HS1.out]; simp [tieArg, he])
            clear he
            go_wp2_with fail
            go_roundw
            case rel => exact ⟨k + 1, by omega, by go_num, by rw [HS1'.out], HS2'.out, HNW.out.trans HN4.out⟩
            case measure => simp [intOf]; omega
    · have h2 : l.take k = l := List.take_of_length_le (by omega)
      rw [h2] at H0
      rw [h2]
      have HE2 : Hid (errB (l.any tieArg) = .int .i64 te) := Lib.hid (by rw [HE.out, H0.out]; rfl)
      rw [HE2.out]
      clear h2 H0
      go_wp2_with fail
      go_ret
      exact ⟨rfl, HN.out.trans HNW.out⟩
end Go.Proofs.YtodmbcoobjcooaaDoor

namespace Go.Proofs.YtodmbcoobjcooaaDoor
open Go Go.RowKit
theorem all_snoc {α : Type} [Inhabited α] {l : List α} {k : Nat} (h : k < l.length) (f : α → Bool) : (l.take (k + 1)).all f = ((l.take k).all f && f (l[k]?.getD default)) := by
  rw [take_at h, List.all_append]; simp
theorem all_not_at {α : Type} [Inhabited α] {l : List α} {k : Nat} (h : k < l.length) {f : α → Bool} (hf : f (l[k]?.getD default) = false) : l.all f = false := by
  rw [getD_get h] at hf
  exact List.all_eq_false.2 ⟨_, List.getElem_mem h, by simp [hf]⟩
set_option maxHeartbeats 2000000 in
theorem ck_Check (s : Sy) (A D : Option Addr) (c d : Nat) (w : World) (hS : SysM w A D s) :
    Calls Tryd.prog 25 #[.agg #[.slice A s.tracks.length c, .slice D s.ties.length d, .int .i64 s.window]] w fun e w' => e = .returned (.int .i64 (checkE s)) ∧ New w w' := by
  have HV : Hid (∀ t J T jc tc w', TkM w' J T t → Calls Tryd.prog 23 #[.agg #[.int .i64 t.slip, .int .i64 t.drift, .slice J t.jumps.length jc, .slice T t.times.length tc]] w' fun e w'' => e = .returned (.bool (trackB t)) ∧ New w' w'') := Lib.hid (fun t J T jc tc w' h => ck_ValidTrack t J T jc tc w' h)
  have HTI : Hid (∀ w', New w w' → Calls Tryd.prog 71 #[.agg #[.slice A s.tracks.length c, .slice D s.ties.length d, .int .i64 s.window], .slice D s.ties.length d] w' fun e w'' => e = .returned (.int .i64 (tiesE s s.ties)) ∧ New w' w'') := Lib.hid (fun w' h => ck_checkTies s A D D c s.ties.length d d s.window s.ties w' (hS.1.keep h) (hS.2.keep h))
  have HE : Hid (checkE s = if 64 < s.tracks.length ∨ 400 < s.ties.length then 2 else if !s.tracks.all trackB then 30 else if tiesE s s.ties ≠ 0 then 30 else if !wiB s.window 0 120 then 30 else 0) := Lib.hid rfl
  have hA := hS.1
  have hm := hS.1.1
  have hm2 := hS.2.1
  clear hS
  generalize checkE s = ce at *
  generalize tiesE s s.ties = te at *
  obtain ⟨tks, tis, win⟩ := s
  dsimp only at HTI HE hA hm hm2 ⊢
  generalize htl : tis.length = tl at *
  clear htl
  have hn := (New.refl w).alloc (.cells #[.slice A tks.length c, .slice D tl d, .int .i64 win] 25)
  have HR := Lib.hid (RowIs.new w 25 [.slice A tks.length c, .slice D tl d, .int .i64 win])
  have c0 := HR.out.cell (i := 0) rfl
  have c1 := HR.out.cell (i := 1) rfl
  have HA := Lib.hid (hA.keep hn)
  have HN := Lib.hid hn
  clear hA hn
  by_cases hx : 64 < tks.length
  · rw [if_pos (.inl hx)] at HE
    go_enter Tryd.func25, Tryd.ntmps25
    go_wp2_with fail
    go_ret
    exact ⟨ret_int HE.out.symm, HN.out⟩
  by_cases hy : 400 < tl
  · rw [if_pos (.inr hy)] at HE
    have hx' : decide (64 < tks.length) = false := by simpa using hx
    go_enter Tryd.func25, Tryd.ntmps25
    go_wp2_with fail
    go_ret
    exact ⟨ret_int HE.out.symm, HN.out⟩
  rw [if_neg (by omega)] at HE
  have hx' : decide (64 < tks.length) = false := by simpa using hx
  have hy' : decide (400 < tl) = false := by simpa using hy
  go_enter Tryd.func25, Tryd.ntmps25
  go_wp2_with fail
  clear c0 c1 hx' hy'
  generalize hW0 : w.alloc (.cells #[.slice A tks.length c, .slice D tl d, .int .i64 win] 25) = W at *
  go_loopw [18] (fun i wr => ∃ k : Nat, k ≤ tks.length ∧ i = .int .i64 k ∧ (tks.take k).all trackB = true ∧ New W wr) (fun i _ => tks.length - (intOf i).toNat)
  case atStart => exact ⟨0, Nat.zero_le _, rfl, rfl, New.refl W⟩
  case round =>
    obtain ⟨k, hk, rfl, h0, hnw⟩ := hrel
    have H0 := Lib.hid h0
    have HNW := Lib.hid hnw
    clear h0 hnw
    by_cases hlt : k < tks.length
    · obtain ⟨b, off, rfl, -, hc⟩ := HA.out.2 (by omega)
      obtain ⟨JA, jc, TA, tc, z0, z1, z2, z3, hj, ht⟩ := (hc k hlt).keep HNW.out
      have HTM : Hid (TkM wr JA TA (tks[k]?.getD default)) := Lib.hid ⟨hj, ht⟩
      have HS1 := Lib.hid (all_snoc hlt trackB)
      have HS3 : Hid (trackB (tks[k]?.getD default) = false → tks.all trackB = false) := Lib.hid (all_not_at hlt)
      clear hc hj ht
      have HV2 := Lib.hid (HV.out (tks[k]?.getD default))
      generalize tks[k]?.getD default = t at *
      generalize trackB t = tb at *
      obtain ⟨ts, tf, tj, tt⟩ := t
      dsimp only at z0 z1 z2 z3 HV2
      have HN2 := Lib.hid ((New.refl wr).alloc (.cells #[.int .i64 ts, .int .i64 tf, .slice JA tj.length jc, .slice TA tt.length tc] 30))
      have HRT := RowIs.new wr 30 [.int .i64 ts, .int .i64 tf, .slice JA tj.length jc, .slice TA tt.length tc]
      have t0 := HRT.cell (i := 0) rfl
      have t1 := HRT.cell (i := 1) rfl
      have t2 := HRT.cell (i := 2) rfl
      have t3 := HRT.cell (i := 3) rfl
      clear HRT
      go_wp2_with fail
      refine (HV2.out _ _ _ _ _ (HTM.out.keep HN2.out)).mono ?_
      rintro e w1 ⟨rfl, h1⟩
      have HN3 := Lib.hid (HN2.out.trans h1)
      clear t0 t1 t2 t3 h1
      cases tb with
      | false =>
        go_wp2_with fail
        go_ret
        exact ⟨ret_int (by rw [HE.out, HS3.out (by first | rfl | trivial)]; rfl), HN.out.trans (HNW.out.trans HN3.out)⟩
      | true =>
        have HS2 : Hid ((tks.take (k + 1)).all trackB = true) := Lib.hid (by rw [HS1.out, H0.out]; rfl)
        go_wp2_with fail
        go_roundw
        case rel => exact ⟨k + 1, by omega, by go_num, HS2.out, HNW.out.trans HN3.out⟩
        case measure => simp [intOf]; omega
    · have h2 : tks.take k = tks := List.take_of_length_le (by omega)
      rw [h2] at H0
      rw [H0.out, if_neg (by decide)] at HE
      clear h2 H0
      have HRW := Lib.hid (HR.out.keep HNW.out)
      have c0 := HRW.out.cell (i := 0) rfl
      have c1 := HRW.out.cell (i := 1) rfl
      have c2 := HRW.out.cell (i := 2) rfl
      go_wp2_with fail
      refine (HTI.out _ (HN.out.trans HNW.out)).mono ?_
      rintro e w1 ⟨rfl, h1⟩
      have HN3 := Lib.hid (HNW.out.trans h1)
      have HRX := Lib.hid (HRW.out.keep h1)
      clear c0 c1 c2 h1
      have c2 := HRX.out.cell (i := 2) rfl
      by_cases h3 : te = 0
      · subst h3
        rw [if_neg (by decide)] at HE
        cases hw : wiB win 0 120 with
        | false =>
          rw [hw] at HE
          have HW := Lib.hid hw
          clear hw
          go_wp2_with (go_at_call 65; refine (ck_withinIs HW.out _).mono ?_; rintro e w' ⟨rfl, rfl⟩)
          go_ret
          exact ⟨ret_int HE.out.symm, HN.out.trans HN3.out⟩
        | true =>
          rw [hw] at HE
          have HW := Lib.hid hw
          clear hw
          go_wp2_with (go_at_call 65; refine (ck_withinIs HW.out _).mono ?_; rintro e w' ⟨rfl, rfl⟩)
          go_ret
          exact ⟨ret_int HE.out.symm, HN.out.trans HN3.out⟩
      · rw [if_pos h3] at HE
        have h3' : (te != 0) = true := by simpa using h3
        clear h3
        go_wp2_with fail
        go_ret
        exact ⟨ret_int HE.out.symm, HN.out.trans HN3.out⟩
/-- Refs in memory. -/
def RfC (w : World) (b o : Nat) (t : Rf) : Prop := w.cell? ⟨b, o, none⟩ = some (.int .i64 t.log) ∧ w.cell? ⟨b, o + 1, none⟩ = some (.int .i64 t.line)
def RfsA (w : World) (A : Option Addr) (l : List Rf) : Prop :=
  l.length ≤ 9223372036854775807 ∧ (0 < l.length → ∃ b off, A = some ⟨b, off, none⟩ ∧ b < w.heap.size ∧ ∀ i, i < l.length → RfC w b (off + i * 2) (l[i]?.getD default))
theorem RfsA.keep {w w' : World} {A : Option Addr} {l : List Rf} (h : RfsA w A l) (k : New w w') : RfsA w' A l :=
  ⟨h.1, fun h0 => by
    obtain ⟨b, off, e, hb, hc⟩ := h.2 h0
    exact ⟨b, off, e, Nat.lt_of_lt_of_le hb k.size, fun i hi => ⟨k.cellOf (hc i hi).1, k.cellOf (hc i hi).2⟩⟩⟩
theorem RfsA.row {w : World} {g : Nat} {e : TypeId} {l : List Rf} (h : RowIs w g e (l.flatMap fun r => [.int .i64 r.log, .int .i64 r.line])) (hl : l.length ≤ 100) : RfsA w (some ⟨g, 0, none⟩) l := by
  refine ⟨by omega, fun _ => ⟨g, 0, rfl, h.lt, fun i hi => ?_⟩⟩
  have key : ∀ (l : List Rf) (i : Nat), i < l.length → (l.flatMap fun r => [Value.int .i64 r.log, .int .i64 r.line])[i * 2]? = some (.int .i64 (l[i]?.getD default).log) ∧ (l.flatMap fun r => [Value.int .i64 r.log, .int .i64 r.line])[i * 2 + 1]? = some (.int .i64 (l[i]?.getD default).line) := by
    intro l
    induction l with
    | nil => intro i h; simp at h
    | cons x l ih =>
      intro i h
      cases i with
      | zero => exact ⟨rfl, rfl⟩
      | succ i =>
        have := ih i (by simpa using h)
        rw [show (i + 1) * 2 = i * 2 + 1 + 1 by omega]
        simpa using this
  obtain ⟨k1, k2⟩ := key l i hi
  exact ⟨by rw [Nat.zero_add]; exact h.cell k1, by rw [Nat.zero_add]; exact h.cell k2⟩
def linesE (s : Sy) (l : List Rf) : Int := if checkE s ≠ 0 then checkE s else if l.all (lineB s) then 0 else 3
set_option maxHeartbeats 2000000 in
theorem ck_checkLines (s : Sy) (A D L : Option Addr) (c d lc : Nat) (l : List Rf) (w : World) (hS : SysM w A D s) (hL : RfsA w L l) :
    Calls Tryd.prog 84 #[.agg #[.slice A s.tracks.length c, .slice D s.ties.length d, .int .i64 s.window], .slice L l.length lc] w fun e w' => e = .returned (.int .i64 (linesE s l)) ∧ New w w' := by
  have HV : Hid (∀ w', New w w' → Calls Tryd.prog 25 #[.agg #[.slice A s.tracks.length c, .slice D s.ties.length d, .int .i64 s.window]] w' fun e w'' => e = .returned (.int .i64 (checkE s)) ∧ New w' w'') := Lib.hid (fun w' h => ck_Check s A D c d w' (hS.keep h))
  have HI : Hid (∀ w' r, New w w' → Calls Tryd.prog 118 #[.agg #[.slice A s.tracks.length c, .slice D s.ties.length d, .int .i64 s.window], .agg #[.int .i64 r.log, .int .i64 r.line]] w' fun e w'' => e = .returned (.bool (lineB s r)) ∧ New w' w'') := Lib.hid (fun w' r h => ck_isLine s r A D c _ d _ w' (hS.1.keep h))
  have HE : Hid (linesE s l = if checkE s ≠ 0 then checkE s else if l.all (lineB s) then 0 else 3) := Lib.hid rfl
  have hm := hL.1
  clear hS
  generalize linesE s l = le at *
  generalize checkE s = ce at *
  generalize lineB s = lb at *
  generalize s.tracks.length = tn at *
  generalize s.ties.length = sn at *
  generalize s.window = win at *
  have hn := (New.refl w).alloc (.cells #[.slice A tn c, .slice D sn d, .int .i64 win] 25)
  have HR := Lib.hid (RowIs.new w 25 [.slice A tn c, .slice D sn d, .int .i64 win])
  have HL := Lib.hid (hL.keep hn)
  have HN := Lib.hid hn
  clear hL hn
  have c0 := HR.out.cell (i := 0) rfl
  have c1 := HR.out.cell (i := 1) rfl
  have c2 := HR.out.cell (i := 2) rfl
  go_enter Tryd.func84, Tryd.ntmps84
  go_wp2_with fail
  refine (HV.out _ HN.out).mono ?_
  rintro e W ⟨rfl, h1⟩
  have HRW0 := Lib.hid (HR.out.keep h1)
  have HLW := Lib.hid (HL.out.keep h1)
  have HNW0 := Lib.hid (HN.out.trans h1)
  clear c0 c1 c2 h1 HN HR HL
  by_cases h3 : ce = 0
  · subst h3
    rw [if_neg (by decide)] at HE
    go_wp2_with fail
    go_loopw [15] (fun i wr => ∃ k : Nat, k ≤ l.length ∧ i = .int .i64 k ∧ (l.take k).all lb = true ∧ New W wr) (fun i _ => l.length - (intOf i).toNat)
    case atStart => exact ⟨0, Nat.zero_le _, rfl, rfl, New.refl W⟩
    case round =>
      obtain ⟨k, hk, rfl, h0, hnw⟩ := hrel
      have H0 := Lib.hid h0
      have HNW := Lib.hid hnw
      clear h0 hnw
      by_cases hlt : k < l.length
      · obtain ⟨b, off, rfl, -, hc⟩ := (HLW.out.keep HNW.out).2 (by omega)
        obtain ⟨z0, z1⟩ := hc k hlt
        have HS1 := Lib.hid (all_snoc hlt lb)
        have HS3 : Hid (lb (l[k]?.getD default) = false → l.all lb = false) := Lib.hid (all_not_at hlt)
        clear hc
        generalize l[k]?.getD default = t at *
        obtain ⟨al, ai⟩ := t
        dsimp only at z0 z1
        have HN2 := Lib.hid ((New.refl wr).alloc (.cells #[.int .i64 al, .int .i64 ai] 53))
        have HRT := RowIs.new wr 53 [.int .i64 al, .int .i64 ai]
        have t0 := HRT.cell (i := 0) rfl
        have t1 := HRT.cell (i := 1) rfl
        have HRW := HRW0.out.keep (HNW.out.trans HN2.out)
        have c0 := HRW.cell (i := 0) rfl
        have c1 := HRW.cell (i := 1) rfl
        have c2 := HRW.cell (i := 2) rfl
        clear HRT HRW
        go_wp2_with fail
        refine (HI.out _ ⟨al, ai⟩ (HNW0.out.trans (HNW.out.trans HN2.out))).mono ?_
        rintro e w1 ⟨rfl, h1⟩
        have HN3 := Lib.hid (HN2.out.trans h1)
        clear t0 t1 c0 c1 c2 h1
        generalize lb ⟨al, ai⟩ = tb at *
        cases tb with
        | false =>
          go_wp2_with fail
          go_ret
          exact ⟨ret_int (by rw [HE.out, HS3.out (by first | rfl | trivial)]; rfl), HNW0.out.trans (HNW.out.trans HN3.out)⟩
        | true =>
          have HS2 : Hid ((l.take (k + 1)).all lb = true) := Lib.hid (by rw [HS1.out, H0.out]; rfl)
          go_wp2_with fail
          go_roundw
          case rel => exact ⟨k + 1, by omega, by go_num, HS2.out, HNW.out.trans HN3.out⟩
          case measure => simp [intOf]; omega
      · have h2 : l.take k = l := List.take_of_length_le (by omega)
        rw [h2] at H0
        rw [H0.out, if_pos rfl] at HE
        clear h2 H0
        go_wp2_with fail
        go_ret
        exact ⟨ret_int HE.out.symm, HNW0.out.trans HNW.out⟩
  · rw [if_pos h3] at HE
    have h3' : (ce != 0) = true := by simpa using h3
    clear h3
    go_wp2_with fail
    go_ret
    exact ⟨ret_int HE.out.symm, HNW0.out⟩
def segV (t : Tk) (m : Int) : Value := if clockB t = true ∧ wiB m 0 20000 = true then .tuple #[.int .i64 (segN t.jumps m), .int .i64 0] else .tuple #[.int .i64 0, .int .i64 1]
set_option maxHeartbeats 1000000 in
theorem ck_Segment (t : Tk) (m : Int) (J : Option Addr) (c : Nat) (w : World) (hJ : IntsA w J t.jumps) :
    Calls Tryd.prog 17 #[.agg #[.int .i64 t.slip, .int .i64 t.drift, .slice J t.jumps.length c], .int .i64 m] w fun e w' => e = .returned (segV t m) ∧ New w w' := by
  have HV : Hid (∀ w', New w w' → Calls Tryd.prog 21 #[.agg #[.int .i64 t.slip, .int .i64 t.drift, .slice J t.jumps.length c]] w' fun e w'' => e = .returned (.bool (clockB t)) ∧ New w' w'') := Lib.hid (fun w' hn => ck_ValidClock t J c w' (hJ.keep hn))
  have HG : Hid (∀ w', New w w' → Calls Tryd.prog 66 #[.agg #[.int .i64 t.slip, .int .i64 t.drift, .slice J t.jumps.length c], .int .i64 m] w' fun e w'' => e = .returned (.int .i64 (segN t.jumps m)) ∧ New w' w'') := Lib.hid (fun w' hn => ck_segment t.slip t.drift m J c t.jumps w' (hJ.keep hn))
  have HE : Hid (segV t m = if clockB t = true ∧ wiB m 0 20000 = true then .tuple #[.int .i64 (segN t.jumps m), .int .i64 0] else .tuple #[.int .i64 0, .int .i64 1]) := Lib.hid rfl
  clear hJ
  generalize segV t m = sv at *
  generalize clockB t = cb at *
  generalize segN t.jumps m = sn at *
  generalize t.slip = a at *
  generalize t.drift = f at *
  generalize t.jumps.length = jn at *
  have HN := Lib.hid ((New.refl w).alloc (.cells #[.int .i64 a, .int .i64 f, .slice J jn c] 28))
  have HR := RowIs.new w 28 [.int .i64 a, .int .i64 f, .slice J jn c]
  have c0 := HR.cell (i := 0) rfl
  have c1 := HR.cell (i := 1) rfl
  have c2 := HR.cell (i := 2) rfl
  go_enter Tryd.func17, Tryd.ntmps17
  go_wp2_with fail
  refine (HV.out _ HN.out).mono ?_
  rintro e w1 ⟨rfl, h1⟩
  have HN2 := Lib.hid (HN.out.trans h1)
  have HR2 := HR.keep h1
  clear c0 c1 c2 h1 HR
  have c0 := HR2.cell (i := 0) rfl
  have c1 := HR2.cell (i := 1) rfl
  have c2 := HR2.cell (i := 2) rfl
  clear HR2
  cases cb with
  | false =>
    rw [if_neg (by simp)] at HE
    go_wp2_with fail
    go_ret2
    exact ⟨ret_val HE.out.symm, HN2.out⟩
  | true =>
    cases hw : wiB m 0 20000 with
    | false =>
      rw [hw, if_neg (by simp)] at HE
      have HW := Lib.hid hw
      clear hw
      go_wp2_with (go_at_call 65; refine (ck_withinIs HW.out _).mono ?_; rintro e w' ⟨rfl, rfl⟩)
      go_ret2
      exact ⟨ret_val HE.out.symm, HN2.out⟩
    | true =>
      rw [hw, if_pos (by simp)] at HE
      have HW := Lib.hid hw
      clear hw
      go_wp2_with (go_at_call 65; refine (ck_withinIs HW.out _).mono ?_; rintro e w' ⟨rfl, rfl⟩)
      refine (HG.out _ HN2.out).mono ?_
      rintro e w2 ⟨rfl, h2⟩
      go_wp2_with fail
      go_ret2
      exact ⟨ret_val HE.out.symm, HN2.out.trans h2⟩
end Go.Proofs.YtodmbcoobjcooaaDoor
