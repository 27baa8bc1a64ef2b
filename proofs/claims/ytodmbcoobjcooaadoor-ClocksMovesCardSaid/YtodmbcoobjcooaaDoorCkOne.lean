/-
  The system of one track alone: it is valid, and it closes: its own times keep its edges. No condition but that the track is valid.
-/
import Derived.Test.YtodmbcoobjcooaaDoorCkTurned
namespace Go.Proofs.YtodmbcoobjcooaaDoor
open Go Go.RowKit Go.Shelf
def oneT (t : Tk) : Sy := { tracks := [t], ties := [], window := 0 }
theorem ok_oneT {t : Tk} (h : trackB t = true) : Ok (oneT t) := by
  unfold Ok checkE
  simp [oneT, h, tiesE, wiB]
theorem oneT_plc (t : Tk) (j : Nat) : plc (oneT t) ⟨0, j⟩ = 1 + j := by
  unfold plc fstP
  simp
theorem oneT_nPl (t : Tk) : nPl (oneT t) = 1 + t.times.length := by
  unfold nPl fstP
  simp [oneT, tkAt]
theorem wrong_pos {t : Tk} (h : 0 ≤ t.drift) {j : Nat} (hs : 0 ≤ shown t j) : 0 ≤ wrong t j := by
  unfold wrong
  have h1 := Int.mul_nonneg h hs
  have h2 : 0 ≤ (t.drift * shown t j + 999) / 1000 := Int.ediv_nonneg (by omega) (by omega)
  omega
def potP (t : Tk) (v : Nat) : Int := if v = 0 then 0 else tmAt t (v - 1)
theorem potP_zero (t : Tk) : potP t 0 = 0 := rfl
theorem potP_line (t : Tk) (j : Nat) : potP t (1 + j) = tmAt t j := by
  unfold potP
  rw [if_neg (by omega)]
  congr 1
  omega
theorem closes_oneT {t : Tk} (h : trackB t = true) : Closes (egs (oneT t)) := by
  obtain ⟨ht, hs0, _, hd0, _, _, _⟩ := trackB_facts h
  have et : tkAt (oneT t) 0 = t := rfl
  have e0 : plc (oneT t) beg = 0 := plc_beg _
  refine ⟨potP t, fun e he => ?_⟩
  obtain ⟨b, hb, rfl⟩ := List.mem_map.1 he
  show potP t (plc (oneT t) b.to) ≤ potP t (plc (oneT t) b.frm) + b.most
  rcases bnds_mem hb with ⟨i, j, hi, hj, h1⟩ | ⟨i, j, hi, hj, h1⟩ | ⟨i, hi, _⟩
  · obtain rfl : i = 0 := by simp [oneT] at hi; omega
    rw [et] at hj h1
    have e1 : plc (oneT t) ⟨((0 : Nat) : Int), (j : Int)⟩ = 1 + j := oneT_plc t j
    rcases h1 with rfl | rfl
    · show potP t (plc (oneT t) ⟨((0 : Nat) : Int), (j : Int)⟩) ≤ potP t (plc (oneT t) beg) + (tmAt t j + t.slip)
      rw [e1, e0, potP_zero, potP_line]
      omega
    · show potP t (plc (oneT t) beg) ≤ potP t (plc (oneT t) ⟨((0 : Nat) : Int), (j : Int)⟩) + (t.slip - tmAt t j)
      rw [e1, e0, potP_zero, potP_line]
      omega
  · obtain rfl : i = 0 := by simp [oneT] at hi; omega
    rw [et] at hj h1
    have hm := (ht j (by omega)).2.2 hj
    have hw := wrong_pos (t := t) hd0 (j := j) (by unfold shown; omega)
    have e1 : plc (oneT t) ⟨((0 : Nat) : Int), (j : Int)⟩ = 1 + j := oneT_plc t j
    have e2 : plc (oneT t) ⟨((0 : Nat) : Int), (j : Int) + 1⟩ = 1 + (j + 1) := oneT_plc t (j + 1)
    rcases h1 with rfl | rfl | rfl
    · show potP t (plc (oneT t) ⟨((0 : Nat) : Int), (j : Int)⟩) ≤ potP t (plc (oneT t) ⟨((0 : Nat) : Int), (j : Int) + 1⟩) + 0
      rw [e1, e2, potP_line, potP_line]
      omega
    · show potP t (plc (oneT t) ⟨((0 : Nat) : Int), (j : Int) + 1⟩) ≤ potP t (plc (oneT t) ⟨((0 : Nat) : Int), (j : Int)⟩) + (shown t j + wrong t j)
      rw [e1, e2, potP_line, potP_line]
      unfold shown at *
      omega
    · show potP t (plc (oneT t) ⟨((0 : Nat) : Int), (j : Int)⟩) ≤ potP t (plc (oneT t) ⟨((0 : Nat) : Int), (j : Int) + 1⟩) + (wrong t j - shown t j)
      rw [e1, e2, potP_line, potP_line]
      unfold shown at *
      omega
  · simp [oneT] at hi
end Go.Proofs.YtodmbcoobjcooaaDoor
