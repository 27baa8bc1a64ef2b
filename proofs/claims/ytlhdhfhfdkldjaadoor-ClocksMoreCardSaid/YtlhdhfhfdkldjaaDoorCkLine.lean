/-
  isLine of the program. Condition: the system lies in memory.
-/
import Derived.Test.YtlhdhfhfdkldjaaDoorCkValid
namespace Go.Proofs.YtlhdhfhfdkldjaaDoor
open Go Go.RowKit
abbrev sysV (A D : Option Addr) (n c m d : Nat) (win : Int) : Value := .agg #[.slice A n c, .slice D m d, .int .i64 win]
abbrev rfV (r : Rf) : Value := .agg #[.int .i64 r.log, .int .i64 r.line]
set_option maxHeartbeats 1000000 in
theorem ck_isLine (s : Sy) (r : Rf) (A D : Option Addr) (c m d : Nat) (win : Int) (w : World) (hA : TksA w A s.tracks) :
    Calls Tryd.prog 118 #[.agg #[.slice A s.tracks.length c, .slice D m d, .int .i64 win], .agg #[.int .i64 r.log, .int .i64 r.line]] w fun e w' => e = .returned (.bool (lineB s r)) ∧ New w w' := by
  have HB : Hid (lineB s r = (wiB r.log 0 ((s.tracks.length : Int) - 1) && wiB r.line 0 (((tkAt s r.log.toNat).times.length : Int) - 1))) := Lib.hid rfl
  generalize lineB s r = lb at *
  obtain ⟨lg, ln⟩ := r
  unfold tkAt at HB
  obtain ⟨l, ties, win2⟩ := s
  dsimp only at HB hA ⊢
  have hn := ((New.refl w).alloc (.cells #[.slice A l.length c, .slice D m d, .int .i64 win] 25)).alloc (.cells #[.int .i64 lg, .int .i64 ln] 53)
  have r1 := (RowIs.new w 25 [.slice A l.length c, .slice D m d, .int .i64 win]).keep ((New.refl _).alloc (.cells #[.int .i64 lg, .int .i64 ln] 53))
  have r2 := RowIs.new (w.alloc (.cells #[.slice A l.length c, .slice D m d, .int .i64 win] 25)) 53 [.int .i64 lg, .int .i64 ln]
  have hz : (w.alloc (.cells #[.slice A l.length c, .slice D m d, .int .i64 win] 25)).heap.size = w.heap.size + 1 := by simp
  rw [hz] at r2
  clear hz
  have c0 := r1.cell (i := 0) rfl
  have e0 := r2.cell (i := 0) rfl
  have e1 := r2.cell (i := 1) rfl
  have hm := hA.1
  have hw1 : IntKind.i64.wrap ((l.length : Int) - 1) = (l.length : Int) - 1 := IntWalk.i64_in _ (by omega)
  have HA := Lib.hid (hA.keep hn)
  have HN := Lib.hid hn
  clear hA r1 r2
  cases h1 : wiB lg 0 ((l.length : Int) - 1) with
  | false =>
    rw [h1, Bool.false_and] at HB
    have H1 := Lib.hid h1
    clear h1
    go_enter Tryd.func118, Tryd.ntmps118
    go_wp2_with fail
    go_quiet ((go_at_call 65; exact quiet_same (ck_withinIs H1.out _)))
    go_wp2_with fail
    go_ret
    exact ⟨ret_bool HB.out.symm, HN.out.drewN _⟩
  | true =>
    rw [h1, Bool.true_and] at HB
    have hq := wiB_iff.1 h1
    obtain ⟨i, rfl⟩ := Int.eq_ofNat_of_zero_le hq.1
    rw [Int.toNat_natCast] at HB
    have H1 := Lib.hid h1
    clear h1
    have hi : i < l.length := by omega
    obtain ⟨b, off, rfl, -, hc⟩ := HA.out.2 (by omega)
    obtain ⟨JA, jc, TA, tc, -, -, -, z, -, hT⟩ := hc i hi
    have hT1 := hT.1
    clear hc hT
    generalize (l[i]?.getD default).times = ts at *
    have hw2 : IntKind.i64.wrap ((ts.length : Int) - 1) = (ts.length : Int) - 1 := IntWalk.i64_in _ (by omega)
    have i1 : (i : Int) < (l.length : Int) := by omega
    have i2 : (0 : Int) ≤ (i : Int) := by omega
    cases h3 : wiB ln 0 ((ts.length : Int) - 1) with
    | false =>
      rw [h3] at HB
      have H3 := Lib.hid h3
      clear h3 hq
      go_enter Tryd.func118, Tryd.ntmps118
      go_wp2_with fail
      go_quiet ((first | (go_at_call 65; with_reducible exact quiet_same (ck_withinIs H1.out _)) | (go_at_call 65; with_reducible exact quiet_same (ck_withinIs H3.out _))))
      go_wp2_with fail
      go_ret
      exact ⟨ret_bool HB.out.symm, HN.out.drewN _⟩
    | true =>
      rw [h3] at HB
      have H3 := Lib.hid h3
      clear h3 hq
      go_enter Tryd.func118, Tryd.ntmps118
      go_wp2_with fail
      go_quiet ((first | (go_at_call 65; with_reducible exact quiet_same (ck_withinIs H1.out _)) | (go_at_call 65; with_reducible exact quiet_same (ck_withinIs H3.out _))))
      go_wp2_with fail
      go_ret
      exact ⟨ret_bool HB.out.symm, HN.out.drewN _⟩
end Go.Proofs.YtlhdhfhfdkldjaaDoor
