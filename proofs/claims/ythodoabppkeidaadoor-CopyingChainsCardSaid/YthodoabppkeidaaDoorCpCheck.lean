/-
  isRising, CheckRise of the program, and Rising of the specification. Condition: the numbers lie in memory.
-/
import Derived.Test.YthodoabppkeidaaDoorCpRises
namespace Go.Proofs.YthodoabppkeidaaDoor
open Go Go.RowKit
def rsgB : Int → List Int → Bool
  | _, [] => true
  | b, n :: l => decide (b + 1 ≤ n ∧ n ≤ 99999) && rsgB n l
theorem rsgB_iff : ∀ {l : List Int} {b : Int}, rsgB b l = true ↔ Rsg b l
  | [], b => by simp [rsgB, Rsg]
  | n :: l, b => by
    rw [rsgB, Rsg, Bool.and_eq_true, decide_eq_true_iff, rsgB_iff]
set_option maxHeartbeats 1000000 in
theorem cp_isRising (l : List Int) (v : Value) (w : World) (hv : IntsAt w v l) : Calls Tryd.prog 38 #[v] w fun e w' => e = .returned (.bool (rsgB 0 l)) ∧ w = w' := by
  have HV := Lib.hid hv
  obtain ⟨A, c, rfl, b1, b2⟩ := hv.form
  clear hv
  generalize hR : rsgB 0 l = RB
  have HRB := Lib.hid hR
  clear hR
  go_enter Tryd.func38, Tryd.ntmps38
  go_wp2_with fail
  go_loopw [8, 3] (fun s8 s3 wr => ∃ (j : Nat) (b : Int), j ≤ l.length ∧ s8 = .int .i64 j ∧ s3 = .int .i64 b ∧ rsgB b (l.drop j) = RB ∧ (0 ≤ b ∧ b ≤ 99999) ∧ wr = w) (fun i _ _ => l.length - (intOf i).toNat)
  case atStart => exact ⟨0, 0, by omega, rfl, rfl, HRB.out, by omega, rfl⟩
  case round =>
    obtain ⟨j, b, hj, rfl, rfl, hg, hb, hw⟩ := hrel
    have hw' := hw.symm
    subst hw'
    clear hw
    have HG := Lib.hid hg
    clear hg
    by_cases hlt : j < l.length
    · obtain ⟨gb, off, rfl, -, hc⟩ := ints_cell HV.out (by omega)
      have hcj := hc j hlt
      have hdr : l.drop j = l[j] :: l.drop (j + 1) := List.drop_eq_getElem_cons hlt
      have HDR := Lib.hid hdr
      have HW := Lib.hid (cp_within l[j] (b + 1) 99999 w)
      clear hc hdr
      have i1 : IntKind.i64.wrap (b + 1) = b + 1 := IntWalk.i64_in _ (by omega)
      by_cases hx : b + 1 ≤ l[j] ∧ l[j] ≤ 99999
      · have hg2 := HG.out
        rw [HDR.out, rsgB, decide_eq_true hx, Bool.true_and] at hg2
        have HG2 := Lib.hid hg2
        rw [decide_eq_true hx] at HW
        have HXX := Lib.hid hx
        clear hx hg2
        generalize l[j] = x at *
        go_wp2_with (go_at_call 54; refine HW.out.mono ?_; rintro e w' ⟨rfl, rfl⟩)
        refine ⟨⟨j + 1, x, by omega, by go_num, rfl, HG2.out, ⟨by have := HXX.out.1; omega, HXX.out.2⟩, trivial⟩, by simp [intOf]; omega⟩
      · have hg2 := HG.out
        rw [HDR.out, rsgB, decide_eq_false hx, Bool.false_and] at hg2
        rw [decide_eq_false hx] at HW
        subst hg2
        clear hx
        generalize l[j] = x at *
        go_wp2_with (go_at_call 54; refine HW.out.mono ?_; rintro e w' ⟨rfl, rfl⟩)
        go_ret
        exact ⟨rfl, rfl⟩
    · obtain rfl : j = l.length := by omega
      have hg2 := HG.out
      rw [List.drop_length, rsgB] at hg2
      subst hg2
      go_wp2_with fail
      go_ret
      exact ⟨rfl, rfl⟩
/-- How many of the first numbers differ. -/
def neqN (l r : List Int) : Nat → Nat
  | 0 => 0
  | j + 1 => neqN l r j + (if l[j]! = r[j]! then 0 else 1)
theorem neqN_le (l r : List Int) : ∀ j, neqN l r j ≤ j
  | 0 => Nat.le_refl _
  | j + 1 => by
    have := neqN_le l r j
    rw [neqN]
    split <;> omega
theorem neq_eq (l r : List Int) : ∀ n, neqN l r n + ((List.range' 1 n).filter fun k => l[k - 1]! == r[k - 1]!).length = n
  | 0 => rfl
  | n + 1 => by
    have ih := neq_eq l r n
    rw [List.range'_concat, List.filter_append, List.length_append, neqN]
    have e : 1 + 1 * n - 1 = n := by omega
    by_cases h : l[n]! = r[n]!
    · have hf : [1 + 1 * n].filter (fun k => l[k - 1]! == r[k - 1]!) = [1 + 1 * n] := by
        rw [List.filter_eq_self]
        intro k hk
        rw [List.mem_singleton] at hk
        subst hk
        rw [e, h]
        exact BEq.rfl
      rw [if_pos h, hf, List.length_singleton]
      omega
    · have hb : (l[n]! == r[n]!) = false := by rw [beq_eq_false_iff_ne]; exact h
      have hf : [1 + 1 * n].filter (fun k => l[k - 1]! == r[k - 1]!) = [] := by
        rw [List.filter_eq_nil_iff]
        intro k hk
        rw [List.mem_singleton] at hk
        subst hk
        rw [e, hb]
        exact Bool.false_ne_true
      rw [if_neg h, hf, List.length_nil]
      omega
theorem neq_places {l r : List Int} : neqN l r l.length + (eqPl l r).length = l.length := neq_eq l r l.length
/-- What CheckRise returns. -/
def crE (l r : List Int) : Int := if serE l ≠ 0 then serE l else if r.length ≠ l.length ∨ rsgB 0 r = false then 43 else 0
def crC (l r : List Int) : Nat := if crE l r = 0 then neqN l r l.length else 0
theorem crE_zero {l r : List Int} (h : crE l r = 0) : serE l = 0 ∧ r.length = l.length ∧ Rsg 0 r := by
  unfold crE at h
  split at h
  · next h1 => exact absurd h h1
  · next h1 =>
    split at h
    · omega
    · next h2 =>
      rw [not_or] at h2
      refine ⟨by simpa using h1, by simpa using h2.1, rsgB_iff.1 (by simpa using h2.2)⟩
set_option maxRecDepth 100000 in
set_option maxHeartbeats 2000000 in
theorem cp_CheckRise (l r : List Int) (v u : Value) (w : World) (hv : IntsAt w v l) (hu : IntsAt w u r) (hl : l.length ≤ 1000000) : Calls Tryd.prog 16 #[v, u] w fun e w' =>
    e = .returned (.tuple #[.int .i64 (crC l r : Nat), .int .i64 (crE l r)]) ∧ New w w' := by
  have HS := Lib.hid (cp_checkSerials l v w hv hl)
  have HR := Lib.hid (cp_isRising r u w hu)
  have HV := Lib.hid hv
  have HU := Lib.hid hu
  obtain ⟨A, c, rfl, b1, b2⟩ := hv.form
  obtain ⟨A', c', rfl, b1', b2'⟩ := hu.form
  clear hv hu
  by_cases he : serE l = 0
  · rw [he] at HS
    by_cases hlen : r.length = l.length
    · by_cases hris : rsgB 0 r = true
      · have e1 : crE l r = 0 := by rw [crE, if_neg (by rw [he]; simp), if_neg (by rw [hris]; simp [hlen])]
        have e2 : crC l r = neqN l r l.length := if_pos e1
        rw [e1, e2]
        rw [hris] at HR
        rw [hlen] at HR HU b1' ⊢
        have HLEN := Lib.hid hlen
        clear he e1 e2 hlen
        go_enter Tryd.func16, Tryd.ntmps16
        go_wp2_with fail
        refine HS.out.mono ?_
        rintro e w' ⟨rfl, rfl⟩
        go_wp2_with fail
        refine HR.out.mono ?_
        rintro e w' ⟨rfl, rfl⟩
        go_wp2_with fail
        go_loopw [26, 7] (fun s26 s7 wr => ∃ j : Nat, j ≤ l.length ∧ s26 = .int .i64 j ∧ s7 = .int .i64 (neqN l r j : Nat) ∧ New w wr) (fun i _ _ => l.length - (intOf i).toNat)
        case atStart => exact ⟨0, by omega, rfl, rfl, New.refl _⟩
        case round =>
          obtain ⟨j, hj, rfl, rfl, hn⟩ := hrel
          have HN := Lib.hid hn
          clear hn
          by_cases hlt : j < l.length
          · obtain ⟨gb, off, rfl, -, hc⟩ := ints_cell (HV.out.keep HN.out) (by omega)
            obtain ⟨gb', off', rfl, -, hc'⟩ := ints_cell (HU.out.keep HN.out) (by have := HLEN.out; omega)
            have x1 := hc j hlt
            have hjr : j < r.length := by have := HLEN.out; omega
            have x2 := hc' j hjr
            have hle := neqN_le l r j
            have hst : neqN l r (j + 1) = neqN l r j + (if l[j]'hlt = r[j]'hjr then 0 else 1) := by
              rw [neqN, getElem!_pos l j hlt, getElem!_pos r j hjr]
            have HST := Lib.hid hst
            clear hc hc' hst
            have i1 : (j : Int) < (l.length : Int) := by omega
            generalize neqN l r j = nj at *
            generalize l[j]'hlt = x at *
            generalize r[j]'hjr = y at *
            clear hjr
            by_cases hxy : x = y
            · have h2 : (x == y) = true := by rw [hxy]; simp
              subst hxy
              go_upto_region 10 with fail
              go_quiet (fail)
              go_wp2_with fail
              refine ⟨⟨j + 1, by omega, by go_num, by rw [HST.out]; simp, HN.out.drewN _⟩, by simp [intOf]; omega⟩
            · have h2 : (x == y) = false := by rw [beq_eq_false_iff_ne]; exact hxy
              go_upto_region 10 with fail
              go_quiet (fail)
              go_wp2_with fail
              refine ⟨⟨j + 1, by omega, by go_num, by rw [HST.out, if_neg hxy]; go_num, HN.out.drewN _⟩, by simp [intOf]; omega⟩
          · obtain rfl : j = l.length := by omega
            go_wp2_with fail
            go_ret2
            exact ⟨rfl, HN.out⟩
      · have hrf : rsgB 0 r = false := by simpa using hris
        have e1 : crE l r = 43 := by rw [crE, if_neg (by rw [he]; simp), if_pos (.inr hrf)]
        have e2 : crC l r = 0 := if_neg (by rw [e1]; decide)
        rw [e1, e2]
        rw [hrf] at HR
        rw [hlen] at HR HU b1' ⊢
        clear he e1 e2 hris hrf hlen
        go_enter Tryd.func16, Tryd.ntmps16
        go_wp2_with fail
        refine HS.out.mono ?_
        rintro e w' ⟨rfl, rfl⟩
        go_wp2_with fail
        refine HR.out.mono ?_
        rintro e w' ⟨rfl, rfl⟩
        go_wp2_with fail
        go_ret2
        exact ⟨rfl, New.refl _⟩
    · have e1 : crE l r = 43 := by rw [crE, if_neg (by rw [he]; simp), if_pos (.inl hlen)]
      have e2 : crC l r = 0 := if_neg (by rw [e1]; decide)
      rw [e1, e2]
      clear he e1 e2
      have hlI : ¬ ((r.length : Int) = (l.length : Int)) := by omega
      have hlB : ((r.length : Int) == (l.length : Int)) = false := by rw [beq_eq_false_iff_ne]; exact hlI
      go_enter Tryd.func16, Tryd.ntmps16
      go_wp2_with fail
      refine HS.out.mono ?_
      rintro e w' ⟨rfl, rfl⟩
      go_wp2_with fail
      go_ret2
      exact ⟨rfl, New.refl _⟩
  · have e1 : crE l r = serE l := if_pos he
    have e2 : crC l r = 0 := if_neg (by rw [e1]; exact he)
    rw [e1, e2]
    have hE : (serE l != 0) = true := by rw [bne_iff_ne]; exact he
    clear e1 e2
    generalize serE l = E at *
    go_enter Tryd.func16, Tryd.ntmps16
    go_wp2_with fail
    refine HS.out.mono ?_
    rintro e w' ⟨rfl, rfl⟩
    go_wp2_with fail
    go_ret2
    exact ⟨rfl, New.refl _⟩
end Go.Proofs.YthodoabppkeidaaDoor
