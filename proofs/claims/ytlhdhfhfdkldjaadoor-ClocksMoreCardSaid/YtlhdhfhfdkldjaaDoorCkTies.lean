/-
  checkTies, Check, checkLines, Segment of the program. Condition: the system lies in memory.
-/
import Derived.Test.YtlhdhfhfdkldjaaDoorCkLine
namespace Go.Proofs.YtlhdhfhfdkldjaaDoor
open Go Go.RowKit
theorem any_snoc {α : Type} [Inhabited α] {l : List α} {k : Nat} (h : k < l.length) (f : α → Bool) : (l.take (k + 1)).any f = ((l.take k).any f || f (l[k]?.getD default)) := by
  rw [take_at h, List.any_append]; simp
theorem any_of_at {α : Type} [Inhabited α] {l : List α} {k : Nat} (h : k < l.length) {f : α → Bool} (hf : f (l[k]?.getD default) = true) : l.any f = true := by
  rw [getD_get h] at hf
  exact List.any_eq_true.2 ⟨_, List.getElem_mem h, hf⟩
def errB (b : Bool) : Value := .int .i64 (if b then 1 else 0)
set_option maxHeartbeats 2000000 in
theorem ck_checkTies (s : Sy) (A D L : Option Addr) (c m d lc : Nat) (win : Int) (l : List Ti) (w : World) (hA : TksA w A s.tracks) (hL : TisA w L l) :
    Calls Tryd.prog 71 #[.agg #[.slice A s.tracks.length c, .slice D m d, .int .i64 win], .slice L l.length lc] w fun e w' => e = .returned (.int .i64 (tiesE s l)) ∧ New w w' := by
  have hn := (New.refl w).alloc (.cells #[.slice A s.tracks.length c, .slice D m d, .int .i64 win] 25)
  have HR := Lib.hid (RowIs.new w 25 [.slice A s.tracks.length c, .slice D m d, .int .i64 win])
  have hm := hL.1
  have HA := Lib.hid (hA.keep hn)
  have HL := Lib.hid (hL.keep hn)
  have HN := Lib.hid hn
  have HE : Hid (tiesE s l = if l.any (tieNone s) then 3 else if l.any tieArg then 1 else 0) := Lib.hid rfl
  have HI : Hid (∀ w' r, TksA w' A s.tracks → Calls Tryd.prog 118 #[.agg #[.slice A s.tracks.length c, .slice D m d, .int .i64 win], .agg #[.int .i64 r.log, .int .i64 r.line]] w' fun e w'' => e = .returned (.bool (lineB s r)) ∧ New w' w'') := Lib.hid (fun w' r h => ck_isLine s r A D c m d win w' h)
  clear hA hL hn
  generalize tiesE s l = te at *
  generalize hfn : tieNone s = fn at *
  have HF : Hid (∀ t, fn t = (!lineB s t.a || !lineB s t.b)) := Lib.hid (fun t => by rw [← hfn]; rfl)
  clear hfn
  generalize s.tracks = tks at *
  generalize lineB s = lb at *
  go_enter Tryd.func71, Tryd.ntmps71
  go_wp2_with fail
  generalize hW0 : w.alloc (.cells #[.slice A tks.length c, .slice D m d, .int .i64 win] 25) = W at *
  go_loopw [5, 10] (fun e i wr => ∃ k : Nat, k ≤ l.length ∧ i = .int .i64 k ∧ e = errB ((l.take k).any tieArg) ∧ (l.take k).any fn = false ∧ New W wr) (fun _ i _ => l.length - (intOf i).toNat)
  case atStart => exact ⟨0, Nat.zero_le _, rfl, rfl, rfl, New.refl W⟩
  case round =>
    obtain ⟨k, hk, rfl, rfl, h0, hnw⟩ := hrel
    have H0 := Lib.hid h0
    have HNW := Lib.hid hnw
    clear h0 hnw
    by_cases hlt : k < l.length
    · obtain ⟨b, off, rfl, -, hc⟩ := HL.out.2 (by omega)
      obtain ⟨z0, z1, z2, z3⟩ := (hc k hlt).keep HNW.out
      have HS1 := Lib.hid (any_snoc hlt tieArg)
      have HS2 := Lib.hid (any_snoc hlt fn)
      have HS3 : Hid (fn (l[k]?.getD default) = true → l.any fn = true) := Lib.hid (any_of_at hlt)
      clear hc
      generalize l[k]?.getD default = t at *
      obtain ⟨⟨al, ai⟩, ⟨bl, bi⟩⟩ := t
      dsimp only at z0 z1 z2 z3
      have hv := HF.out ⟨⟨al, ai⟩, ⟨bl, bi⟩⟩
      dsimp only at hv
      rw [hv] at HS2 HS3
      clear hv
      have HRW := Lib.hid (HR.out.keep HNW.out)
      have HN2 := Lib.hid ((New.refl wr).alloc (.cells #[.int .i64 al, .int .i64 ai, .int .i64 bl, .int .i64 bi] 79))
      have HRT := Lib.hid (RowIs.new wr 79 [.int .i64 al, .int .i64 ai, .int .i64 bl, .int .i64 bi])
      have c0 := (HRW.out.keep HN2.out).cell (i := 0) rfl
      have c1 := (HRW.out.keep HN2.out).cell (i := 1) rfl
      have c2 := (HRW.out.keep HN2.out).cell (i := 2) rfl
      go_wp2_with fail
      refine (HI.out _ ⟨al, ai⟩ (HA.out.keep (HNW.out.trans HN2.out))).mono ?_
      rintro e w1 ⟨rfl, h1⟩
      have HN3 := Lib.hid (HN2.out.trans h1)
      have HRT1 := Lib.hid (HRT.out.keep h1)
      clear c0 c1 c2 h1 HN2 HRT
      have c0 := (HRW.out.keep HN3.out).cell (i := 0) rfl
      have c1 := (HRW.out.keep HN3.out).cell (i := 1) rfl
      have c2 := (HRW.out.keep HN3.out).cell (i := 2) rfl
      have t0 := HRT1.out.cell (i := 0) rfl
      have t1 := HRT1.out.cell (i := 1) rfl
      have t2 := HRT1.out.cell (i := 2) rfl
      have t3 := HRT1.out.cell (i := 3) rfl
      cases hla : lb ⟨al, ai⟩ with
      | false =>
        rw [hla] at HS3
        go_wp2_with fail
        go_ret
        exact ⟨ret_int (by rw [HE.out, HS3.out rfl]; rfl), HN.out.trans (HNW.out.trans HN3.out)⟩
      | true =>
        rw [hla] at HS2 HS3
        clear hla
        go_wp2_with fail
        refine (HI.out _ ⟨bl, bi⟩ (HA.out.keep (HNW.out.trans HN3.out))).mono ?_
        rintro e w2 ⟨rfl, h2⟩
        have HN4 := Lib.hid (HN3.out.trans h2)
        have HRT2 := Lib.hid (HRT1.out.keep h2)
        clear c0 c1 c2 t0 t1 t2 t3 h2
        have t0 := HRT2.out.cell (i := 0) rfl
        have t2 := HRT2.out.cell (i := 2) rfl
        cases hlb : lb ⟨bl, bi⟩ with
        | false =>
          rw [hlb] at HS3
          go_wp2_with fail
          go_ret
          exact ⟨ret_int (by rw [HE.out, HS3.out rfl]; rfl), HN.out.trans (HNW.out.trans HN4.out)⟩
        | true =>
          rw [hlb] at HS2
          clear hlb
          have HS2' : Hid ((l.take (k + 1)).any fn = false) := Lib.hid (by rw [HS2.out, H0.out]; rfl)
          by_cases he : al = bl
          · subst he
            have HS1' : Hid ((l.take (k + 1)).any tieArg = true) := Lib.hid (by rw [HS1.out]; simp [tieArg])
            go_wp2_with fail
            go_roundw
            case rel => exact ⟨k + 1, by omega, by go_num, by rw [HS1'.out]; rfl, HS2'.out, HNW.out.trans HN4.out⟩
            case measure => simp [intOf]; omega
          · have he' : (al == bl) = false := by simpa using he
            have HS1' : Hid ((l.take (k + 1)).any tieArg = (l.take k).any tieArg) := Lib.hid (by rw [HS1.out]; simp [tieArg, he])
            clear he
            go_wp2_with fail
            go_roundw
            case rel => exact ⟨k + 1, by omega, by go_num, by rw [HS1'.out], HS2'.out, HNW.out.trans HN4.out⟩
            case measure => simp [intOf]; omega
    · have h2 : l.take k = l := List.take_of_length_le (by omega)
      rw [h2] at H0
      rw [h2]
      have HE2 : Hid (errB (l.any tieArg) = .int .i64 te) := Lib.hid (by rw [HE.out, H0.out]; rfl)
      rw [HE2.out]
      clear h2 H0
      go_wp2_with fail
      go_ret
      exact ⟨rfl, HN.out.trans HNW.out⟩
end Go.Proofs.YtlhdhfhfdkldjaaDoor
