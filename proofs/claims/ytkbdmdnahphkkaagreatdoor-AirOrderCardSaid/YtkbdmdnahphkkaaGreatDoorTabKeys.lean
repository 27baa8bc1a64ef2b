/-
  Keys of rows (keyOf), rows in force (inForce) of the program; how a key reads as a map's key. Condition: the texts are in memory.
-/
import Derived.Test.YtkbdmdnahphkkaaGreatDoorTabMath
import Derived.Test.YtkbdmdnahphkkaaGreatDoorTabRef
import Derived.Test.YtkbdmdnahphkkaaGreatDoorInv
import Derived.Maps.OwnRows
import Derived.Maps.Keyed
import Derived.DeepKeys4
import Derived.Maps.Views
namespace Go.Proofs.YtkbdmdnahphkkaaGreatDoor
open Go.RowKit
def keyV (t : Bytes) (wh : Bool) : Value := .agg #[.string (B t), .bool wh]
theorem air_keyOf (r : Rw) (w : World) : Calls Tryz.prog 62 #[rowV r] w fun e w' => e = .returned (keyV r.text r.whole) ∧ New w w' := by
  unfold rowV keyV
  go_enter Tryz.func62, Tryz.ntmps62
  go_wp2_with fail
  refine bodyPost_ret (v := .agg #[.string (B r.text), .bool r.whole]) (by simp [results, Tryz.results62, go_sem]) rfl ⟨rfl, ?_⟩
  repeat first | exact (New.refl w) | exact ((((New.refl w).alloc _).alloc _).setCell (Nat.le_succ _) _).setCell (Nat.le_succ _) _ | exact ((New.refl w).alloc _).alloc _
theorem air_inForce (r : Rw) (d : Int) (w : World) : Calls Tryz.prog 46 #[rowV r, .int .i64 d] w fun e w' => e = .returned (.bool (forceB d r)) ∧ New w w' := by
  have HN := Lib.hid ((New.refl w).alloc (.cells #[.string (B r.text), .int .i64 r.country, .int .i64 r.zone, .int .i64 r.cont, .int .i64 r.frm, .int .i64 r.til, .bool r.whole] 49))
  unfold rowV forceB
  go_enter Tryz.func46, Tryz.ntmps46
  go_wp2_with fail
  refine (air_within _ _ _ _).mono ?_
  rintro e w' ⟨rfl, rfl⟩
  go_wp2_with fail
  go_ret
  exact ⟨rfl, HN.out⟩
theorem key_wide : (match Tryz.prog.underlying 112 with | some (.array _ _) | some (.struct _) => true | _ => false) = true := by rw [Tryz.underlying112]
theorem key_laid : laidOutB Tryz.prog = true := by kernel_rfl
theorem key_row : (112 : TypeId) < Tryz.prog.types.size := of_decide_eq_true (by kernel_rfl)
theorem key_at : Tryz.prog.keyTypeAt 2 112 = true := by kernel_rfl
set_option maxRecDepth 100000 in
theorem key_law : Maps.Keyed Tryz.prog 112 := Maps.Keyed.of_law (deep_law_laid key_laid (m := 2) (by omega) key_row key_at key_wide)
/-- A key as a map's key. -/
def keyL (t : Bytes) (wh : Bool) : Lit := .string (keyBytes [.string t, .bool wh])
theorem cells_key : Tryz.prog.cellsOf 112 = 2 := by kernel_rfl
theorem cells_str : Tryz.prog.cellsOf 9 = 1 := by kernel_rfl
theorem cells_bool : Tryz.prog.cellsOf 4 = 1 := by kernel_rfl
theorem key_kt : Tryz.prog.keyType 112 = true := by kernel_rfl
theorem types_size : ∃ m, Tryz.prog.types.size = m + 1 := ⟨Tryz.prog.types.size - 1, by have h : 0 < Tryz.prog.types.size := of_decide_eq_true (by kernel_rfl); omega⟩
theorem key_reads (t : Bytes) (wh : Bool) (h : t.length ≤ maxLen) : keyOf Tryz.prog 112 (keyV t wh) = some (keyL t wh) := by
  have hsz : (B t).size ≤ maxLen := by rw [B_size]; exact h
  obtain ⟨m, hm⟩ := types_size
  unfold keyOf keyV keyL
  simp only [Tryz.underlying112]
  rw [if_pos (by simp [key_kt, Value.formed, Tryz.underlying112, cells_key]), hm]
  unfold Program.keyLits
  have hb : (B t).data.toList = t := by simp [B]
  simp only [Tryz.underlying112, Value.cells]
  rw [if_pos ⟨by rw [cells_key]; rfl, by decide +kernel⟩]
  simp [cells_str, cells_bool, Program.keyLits, Tryz.underlying9, Tryz.underlying4, hsz, hb]
theorem key_inj {t t' : Bytes} {wh wh' : Bool} (h : t.length ≤ maxLen) (h' : t'.length ≤ maxLen) (e : keyL t wh = keyL t' wh') : t = t' ∧ wh = wh' := by
  have h1 := key_reads t wh h
  have h2 := key_reads t' wh' h'
  rw [e] at h1
  have := Maps.Keyed.inj key_law h1 h2
  simp [keyV] at this
  exact ⟨B_inj this.1, this.2⟩

end Go.Proofs.YtkbdmdnahphkkaaGreatDoor
