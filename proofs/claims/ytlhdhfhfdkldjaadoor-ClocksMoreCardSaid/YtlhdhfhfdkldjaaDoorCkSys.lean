/-
  Systems of clocks as plain values: what is valid, the bounds, and the net of places that they make. No program, no condition.
-/
import Derived.Test.YtlhdhfhfdkldjaaDoorCkGraph
namespace Go.Proofs.YtlhdhfhfdkldjaaDoor
structure Rf where
  log : Int
  line : Int
deriving DecidableEq, Inhabited
def beg : Rf := ⟨-1, 0⟩
structure Bd where
  frm : Rf
  to : Rf
  most : Int
  kind : Int
  id : Int
deriving DecidableEq, Inhabited
structure Tk where
  slip : Int
  drift : Int
  jumps : List Int
  times : List Int
deriving Inhabited
structure Ti where
  a : Rf
  b : Rf
deriving DecidableEq, Inhabited
structure Sy where
  tracks : List Tk
  ties : List Ti
  window : Int
def wiB (n lo hi : Int) : Bool := decide (lo ≤ n) && decide (n ≤ hi)
theorem wiB_iff {n lo hi : Int} : wiB n lo hi = true ↔ lo ≤ n ∧ n ≤ hi := by simp [wiB]
def jumpsB : Int → List Int → Bool
  | _, [] => true
  | last, j :: l => wiB j (last + 1) 20000 && jumpsB j l
def timesB : Int → List Int → Bool
  | _, [] => true
  | last, j :: l => wiB j last 20000 && timesB j l
def clockB (t : Tk) : Bool := jumpsB (-1) t.jumps && (wiB t.slip 0 1440 && (wiB t.drift 0 100 && decide (t.jumps.length ≤ 16)))
def trackB (t : Tk) : Bool := timesB 0 t.times && (clockB t && decide (t.times.length ≤ 400))
def tkAt (s : Sy) (i : Nat) : Tk := s.tracks[i]?.getD default
def tmAt (t : Tk) (j : Nat) : Int := t.times[j]?.getD 0
def lineB (s : Sy) (r : Rf) : Bool := wiB r.log 0 ((s.tracks.length : Int) - 1) && wiB r.line 0 (((tkAt s r.log.toNat).times.length : Int) - 1)
def tieNone (s : Sy) (t : Ti) : Bool := !lineB s t.a || !lineB s t.b
def tieArg (t : Ti) : Bool := decide (t.a.log = t.b.log)
def tiesE (s : Sy) (l : List Ti) : Int := if l.any (tieNone s) then 3 else if l.any tieArg then 1 else 0
def checkE (s : Sy) : Int := if 64 < s.tracks.length ∨ 400 < s.ties.length then 2 else if !s.tracks.all trackB then 30 else if tiesE s s.ties ≠ 0 then 30 else if !wiB s.window 0 120 then 30 else 0
theorem checkE_ok {s : Sy} (h : checkE s = 0) : s.tracks.length ≤ 64 ∧ s.ties.length ≤ 400 ∧ (∀ t ∈ s.tracks, trackB t = true) ∧ tiesE s s.ties = 0 ∧ 0 ≤ s.window ∧ s.window ≤ 120 := by
  unfold checkE at h
  by_cases h1 : 64 < s.tracks.length ∨ 400 < s.ties.length
  · rw [if_pos h1] at h; cases h
  rw [if_neg h1] at h
  by_cases h2 : (!s.tracks.all trackB) = true
  · rw [if_pos h2] at h; cases h
  rw [if_neg h2] at h
  by_cases h3 : tiesE s s.ties ≠ 0
  · rw [if_pos h3] at h; cases h
  rw [if_neg h3] at h
  by_cases h4 : (!wiB s.window 0 120) = true
  · rw [if_pos h4] at h; cases h
  have h5 : wiB s.window 0 120 = true := by simpa using h4
  have h6 := wiB_iff.1 h5
  refine ⟨by omega, by omega, ?_, by omega, h6.1, h6.2⟩
  simpa using h2
def segN (l : List Int) (m : Int) : Nat := l.countP (fun j => decide (j ≤ m))
-- the bounds
def upB (i : Nat) (t : Tk) (j : Nat) : Bd := ⟨beg, ⟨i, j⟩, tmAt t j + t.slip, 1, j⟩
def downB (i : Nat) (t : Tk) (j : Nat) : Bd := ⟨⟨i, j⟩, beg, t.slip - tmAt t j, 1, j⟩
def slipsT (i : Nat) (t : Tk) (k : Nat) : List Bd := (List.range k).flatMap fun j => [upB i t j, downB i t j]
def slipsL (s : Sy) (k : Nat) : List Bd := (List.range k).flatMap fun i => slipsT i (tkAt s i) (tkAt s i).times.length
def orderB (i j : Nat) : Bd := ⟨⟨i, (j : Int) + 1⟩, ⟨i, j⟩, 0, 2, j⟩
def shown (t : Tk) (j : Nat) : Int := tmAt t (j + 1) - tmAt t j
def wrong (t : Tk) (j : Nat) : Int := 1 + (t.drift * shown t j + 999) / 1000
def driftUp (i : Nat) (t : Tk) (j : Nat) : Bd := ⟨⟨i, j⟩, ⟨i, (j : Int) + 1⟩, shown t j + wrong t j, 3, j⟩
def driftDown (i : Nat) (t : Tk) (j : Nat) : Bd := ⟨⟨i, (j : Int) + 1⟩, ⟨i, j⟩, wrong t j - shown t j, 3, j⟩
def stepL (i : Nat) (t : Tk) (j : Nat) : List Bd := orderB i j :: if segN t.jumps (tmAt t j) = segN t.jumps (tmAt t (j + 1)) then [driftUp i t j, driftDown i t j] else []
def stepsT (i : Nat) (t : Tk) (k : Nat) : List Bd := (List.range k).flatMap (stepL i t)
def stepsL (s : Sy) (k : Nat) : List Bd := (List.range k).flatMap fun i => stepsT i (tkAt s i) ((tkAt s i).times.length - 1)
def tiAt (s : Sy) (i : Nat) : Ti := s.ties[i]?.getD default
def thereB (s : Sy) (i : Nat) : Bd := ⟨(tiAt s i).a, (tiAt s i).b, s.window, 4, i⟩
def backB (s : Sy) (i : Nat) : Bd := ⟨(tiAt s i).b, (tiAt s i).a, s.window, 4, i⟩
def tiesL (s : Sy) (k : Nat) : List Bd := (List.range k).flatMap fun i => [thereB s i, backB s i]
def bnds (s : Sy) : List Bd := slipsL s s.tracks.length ++ stepsL s s.tracks.length ++ tiesL s s.ties.length
theorem fm_snoc {α : Type} (f : Nat → List α) (k : Nat) : (List.range (k + 1)).flatMap f = (List.range k).flatMap f ++ f k := by rw [List.range_succ, List.flatMap_append]; simp
theorem slipsT_succ (i : Nat) (t : Tk) (k : Nat) : slipsT i t (k + 1) = slipsT i t k ++ [upB i t k, downB i t k] := fm_snoc _ _
theorem slipsL_succ (s : Sy) (k : Nat) : slipsL s (k + 1) = slipsL s k ++ slipsT k (tkAt s k) (tkAt s k).times.length := fm_snoc _ _
theorem stepsT_succ (i : Nat) (t : Tk) (k : Nat) : stepsT i t (k + 1) = stepsT i t k ++ stepL i t k := fm_snoc _ _
theorem stepsL_succ (s : Sy) (k : Nat) : stepsL s (k + 1) = stepsL s k ++ stepsT k (tkAt s k) ((tkAt s k).times.length - 1) := fm_snoc _ _
theorem tiesL_succ (s : Sy) (k : Nat) : tiesL s (k + 1) = tiesL s k ++ [thereB s k, backB s k] := fm_snoc _ _
-- the places
def fstP (s : Sy) (k : Nat) : Nat := 1 + ((List.range k).map fun i => (tkAt s i).times.length).sum
theorem fstP_zero (s : Sy) : fstP s 0 = 1 := rfl
theorem fstP_succ (s : Sy) (k : Nat) : fstP s (k + 1) = fstP s k + (tkAt s k).times.length := by
  unfold fstP; rw [List.range_succ, List.map_append, List.sum_append]; simp; omega
def plc (s : Sy) (r : Rf) : Nat := if r.log < 0 then 0 else fstP s r.log.toNat + r.line.toNat
def nPl (s : Sy) : Nat := fstP s s.tracks.length
def egOf (s : Sy) (b : Bd) : Eg := (plc s b.frm, plc s b.to, b.most)
def egs (s : Sy) : List Eg := (bnds s).map (egOf s)
theorem fstP_mono (s : Sy) {a b : Nat} (h : a ≤ b) : fstP s a ≤ fstP s b := by
  induction h with
  | refl => exact Nat.le_refl _
  | step _ ih => rw [fstP_succ]; omega
/-- A line's place lies among those of its track. -/
theorem plc_line {s : Sy} {r : Rf} (h : lineB s r = true) : 1 ≤ plc s r ∧ plc s r < nPl s ∧ plc s r = fstP s r.log.toNat + r.line.toNat ∧ r.log.toNat < s.tracks.length ∧ r.line.toNat < (tkAt s r.log.toNat).times.length ∧ 0 ≤ r.log ∧ 0 ≤ r.line := by
  unfold lineB at h
  rw [Bool.and_eq_true] at h
  have h1 := wiB_iff.1 h.1
  have h2 := wiB_iff.1 h.2
  have e : plc s r = fstP s r.log.toNat + r.line.toNat := by unfold plc; rw [if_neg (by omega)]
  have a1 : fstP s 0 ≤ fstP s r.log.toNat := fstP_mono s (Nat.zero_le _)
  have a2 : fstP s (r.log.toNat + 1) ≤ nPl s := fstP_mono s (by omega)
  rw [fstP_zero] at a1
  rw [fstP_succ] at a2
  exact ⟨by omega, by omega, e, by omega, by omega, by omega, by omega⟩
/-- Different lines have different places. -/
theorem plc_inj {s : Sy} {r q : Rf} (h : lineB s r = true) (k : lineB s q = true) (e : plc s r = plc s q) : r = q := by
  obtain ⟨_, _, a1, a2, a3, a4, a5⟩ := plc_line h
  obtain ⟨_, _, b1, b2, b3, b4, b5⟩ := plc_line k
  have hl : r.log.toNat = q.log.toNat := by
    rcases Nat.lt_trichotomy r.log.toNat q.log.toNat with hl | hl | hl
    · have := fstP_mono s (show r.log.toNat + 1 ≤ q.log.toNat by omega)
      rw [fstP_succ] at this
      omega
    · exact hl
    · have := fstP_mono s (show q.log.toNat + 1 ≤ r.log.toNat by omega)
      rw [fstP_succ] at this
      omega
  rw [hl] at a1
  have h1 : r.log = q.log := by omega
  have h2 : r.line = q.line := by omega
  cases r; cases q; simp at h1 h2; rw [h1, h2]
theorem plc_beg (s : Sy) : plc s beg = 0 := rfl
theorem line_mk {s : Sy} {i j : Nat} (hi : i < s.tracks.length) (hj : j < (tkAt s i).times.length) : lineB s ⟨i, j⟩ = true := by
  unfold lineB
  rw [Bool.and_eq_true, wiB_iff, wiB_iff]
  simp only [Int.toNat_natCast]
  omega
end Go.Proofs.YtlhdhfhfdkldjaaDoor
