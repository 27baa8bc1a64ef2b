/-
  parts, Split, ValidCall, Base, Same, PrefixOf and Join of the specification: the same as the program's. Condition: texts of at most 100000 bytes.
-/
import Derived.Test.YtkbdmdnahphkkaaGreatDoorRefChars
import Derived.Test.YtkbdmdnahphkkaaGreatDoorRefSplit
import Derived.Test.YtkbdmdnahphkkaaGreatDoorCalls
namespace Go.Proofs.YtkbdmdnahphkkaaGreatDoor
open Go.RowKit
def t3V : Option (Bytes × Bytes × Bytes) → Value
  | some t => .tuple #[.string (B t.1), .string (B t.2.1), .string (B t.2.2), .bool true]
  | none => .tuple #[.string (B []), .string (B []), .string (B []), .bool false]
theorem drewsN {a w : World} {n : Nat} (h : New a w) : New a (w.drewN n) := h.drewN n
theorem drewsN2 {a w : World} {n m : Nat} (h : New a w) : New a ((w.drewN n).drewN m) := (h.drewN n).drewN m
set_option maxHeartbeats 2000000 in
theorem ref_parts (s : ByteArray) (w : World) (hs : s.size ≤ 100000) :
    Calls Tryz.prog 66 #[.string s] w fun e w' => e = .returned (t3V (partsR (bs s))) ∧ New w w' := by
  have hz := bs_size s
  by_cases h16 : 16 < s.size
  · have HE : Hid (partsR (bs s) = none) := by
      have h : partsR (bs s) = none := by unfold partsR; rw [if_pos (by omega)]
      exact Lib.hid h
    go_enter Tryz.func66, Tryz.ntmps66
    go_wp2_with fail
    refine bodyPost_ret (v := .tuple #[.string (B []), .string (B []), .string (B []), .bool false]) (by simp [results, Tryz.results66, go_sem]; rfl) rfl ⟨by rw [HE.out]; rfl, New.refl w⟩
  · have HQ : Hid (partsR (bs s) = tryR (piecesL 47 (bs s))) := by
      have h : partsR (bs s) = tryR (piecesL 47 (bs s)) := by unfold partsR; rw [if_neg (by omega)]
      exact Lib.hid h
    go_enter Tryz.func66, Tryz.ntmps66
    go_wp2_with fail
    refine (ref_pieces s w hs).mono ?_
    rintro e w1 ⟨v, rfl, hst⟩
    obtain ⟨g, cap, rfl, hg1, hg2, hcap, hcell⟩ := hst.open' (pieces_len 47 (bs s)).2.1
    have hn1 := hst.2
    have hpl := (pieces_len 47 (bs s)).1
    have hpz := (pieces_len 47 (bs s)).2.2
    rw [hz] at hpl hpz
    clear hst hz
    have HN := Lib.hid (pieces_len 47 (bs s)).2.1
    generalize piecesL 47 (bs s) = ws at *
    match ws with
    | [] => exact absurd rfl HN.out
    | [x] =>
      have c0 := hcell 0 x rfl
      have hx := hpz x (by simp)
      have hxs := B_size x
      clear hcell hpz
      simp only [strV] at c0
      go_wp2_with fail
      refine (ref_base (B x) _ (by omega)).mono ?_
      rintro e w2 ⟨rfl, rfl⟩
      rw [bs_B]
      cases hb : baseB x with
      | true =>
        have HE : Hid (partsR (bs s) = some ([], x, [])) := by
          have h : partsR (bs s) = some ([], x, []) := by rw [HQ.out, tryR, hb]; rfl
          exact Lib.hid h
        clear hb HQ
        go_wp2_with fail
        go_quiet (fail)
        go_wp2_with fail
        refine bodyPost_ret (v := .tuple #[.string (B []), .string (B x), .string (B []), .bool true]) (by simp [results, Tryz.results66, go_sem]; rfl) rfl ⟨by rw [HE.out]; rfl, hn1.drewN _⟩
      | false =>
        have HE : Hid (partsR (bs s) = none) := by
          have h : partsR (bs s) = none := by rw [HQ.out, tryR, hb]; rfl
          exact Lib.hid h
        clear hb HQ
        go_wp2_with fail
        go_quiet (fail)
        go_wp2_with fail
        refine bodyPost_ret (v := .tuple #[.string (B []), .string (B []), .string (B []), .bool false]) (by simp [results, Tryz.results66, go_sem]; rfl) rfl ⟨by rw [HE.out]; rfl, hn1.drewN _⟩
    | [x, y] =>
      have c0 := hcell 0 x rfl
      have c1 := hcell 1 y rfl
      have hx := hpz x (by simp)
      have hy := hpz y (by simp)
      have hxs := B_size x
      have hys := B_size y
      clear hcell hpz
      simp only [strV] at c0 c1
      have HA : Hid (∀ wx, Calls Tryz.prog 93 #[.string (B x)] wx fun e w' => e = .returned (.bool (areaB x)) ∧ wx = w') := Lib.hid (fun wx => by have h := ref_area (B x) wx (by omega); rw [bs_B] at h; exact h)
      have HB : Hid (∀ wx, Calls Tryz.prog 92 #[.string (B y)] wx fun e w' => e = .returned (.bool (baseB y)) ∧ wx = w') := Lib.hid (fun wx => by have h := ref_base (B y) wx (by omega); rw [bs_B] at h; exact h)
      have HX : Hid (∀ wx, Calls Tryz.prog 92 #[.string (B x)] wx fun e w' => e = .returned (.bool (baseB x)) ∧ wx = w') := Lib.hid (fun wx => by have h := ref_base (B x) wx (by omega); rw [bs_B] at h; exact h)
      have HY : Hid (∀ wx, Calls Tryz.prog 94 #[.string (B y)] wx fun e w' => e = .returned (.bool (strokeB y)) ∧ wx = w') := Lib.hid (fun wx => by have h := ref_stroke (B y) wx (by omega); rw [bs_B] at h; exact h)
      have fin : ∀ c : Bool, (areaB x && (baseB y && decide (x.length < y.length))) = c → partsR (bs s) = if c then some (x, y, []) else if baseB x && strokeB y then some ([], x, y) else none := by
        intro c h; rw [HQ.out, tryR, h]
      have FIN := Lib.hid fin
      clear fin HQ
      cases ha : areaB x with
      | false =>
        have HE := Lib.hid (FIN.out false (by rw [ha]; rfl))
        rw [ha] at HA
        clear ha FIN HB
        go_wp2_with fail
        go_quiet ((go_at_call 93; exact quiet_same (HA.out _)))
        go_wp2_with fail
        refine (HX.out _).mono ?_
        rintro e w2 ⟨rfl, rfl⟩
        cases hbx : baseB x with
        | false =>
          have HE2 : Hid (partsR (bs s) = none) := by
            have h := HE.out
            rw [hbx] at h
            exact Lib.hid h
          clear hbx
          go_wp2_with fail
          refine bodyPost_ret (v := .tuple #[.string (B []), .string (B []), .string (B []), .bool false]) (by simp [results, Tryz.results66, go_sem]; rfl) rfl ⟨by rw [HE2.out]; rfl, drewsN hn1⟩
        | true =>
          go_wp2_with fail
          refine (HY.out _).mono ?_
          rintro e w2 ⟨rfl, rfl⟩
          cases hsy : strokeB y with
          | false =>
            have HE2 : Hid (partsR (bs s) = none) := by
              have h := HE.out
              rw [hbx, hsy] at h
              exact Lib.hid h
            clear hbx hsy
            go_wp2_with fail
            refine bodyPost_ret (v := .tuple #[.string (B []), .string (B []), .string (B []), .bool false]) (by simp [results, Tryz.results66, go_sem]; rfl) rfl ⟨by rw [HE2.out]; rfl, drewsN hn1⟩
          | true =>
            have HE2 : Hid (partsR (bs s) = some ([], x, y)) := by
              have h := HE.out
              rw [hbx, hsy] at h
              exact Lib.hid h
            clear hbx hsy
            go_wp2_with fail
            go_quiet (fail)
            go_wp2_with fail
            refine bodyPost_ret (v := .tuple #[.string (B []), .string (B x), .string (B y), .bool true]) (by simp [results, Tryz.results66, go_sem]; rfl) rfl ⟨by rw [HE2.out]; rfl, drewsN2 hn1⟩
      | true =>
        rw [ha] at HA
        cases hb : baseB y with
        | false =>
          have HE := Lib.hid (FIN.out false (by rw [ha, hb]; rfl))
          rw [hb] at HB
          clear ha hb FIN
          go_wp2_with fail
          go_quiet ((first | (go_at_call 93; exact quiet_same (HA.out _)) | (go_at_call 92; exact quiet_same (HB.out _))))
          go_wp2_with fail
          refine (HX.out _).mono ?_
          rintro e w2 ⟨rfl, rfl⟩
          cases hbx : baseB x with
          | false =>
            have HE2 : Hid (partsR (bs s) = none) := by
              have h := HE.out
              rw [hbx] at h
              exact Lib.hid h
            clear hbx
            go_wp2_with fail
            refine bodyPost_ret (v := .tuple #[.string (B []), .string (B []), .string (B []), .bool false]) (by simp [results, Tryz.results66, go_sem]; rfl) rfl ⟨by rw [HE2.out]; rfl, drewsN hn1⟩
          | true =>
            go_wp2_with fail
            refine (HY.out _).mono ?_
            rintro e w2 ⟨rfl, rfl⟩
            cases hsy : strokeB y with
            | false =>
              have HE2 : Hid (partsR (bs s) = none) := by
                have h := HE.out
                rw [hbx, hsy] at h
                exact Lib.hid h
              clear hbx hsy
              go_wp2_with fail
              refine bodyPost_ret (v := .tuple #[.string (B []), .string (B []), .string (B []), .bool false]) (by simp [results, Tryz.results66, go_sem]; rfl) rfl ⟨by rw [HE2.out]; rfl, drewsN hn1⟩
            | true =>
              have HE2 : Hid (partsR (bs s) = some ([], x, y)) := by
                have h := HE.out
                rw [hbx, hsy] at h
                exact Lib.hid h
              clear hbx hsy
              go_wp2_with fail
              go_quiet (fail)
              go_wp2_with fail
              refine bodyPost_ret (v := .tuple #[.string (B []), .string (B x), .string (B y), .bool true]) (by simp [results, Tryz.results66, go_sem]; rfl) rfl ⟨by rw [HE2.out]; rfl, drewsN2 hn1⟩
        | true =>
          rw [hb] at HB
          by_cases hlt : x.length < y.length
          · have HE := Lib.hid (FIN.out true (by rw [ha, hb, decide_eq_true hlt]; rfl))
            clear ha hb FIN
            go_wp2_with fail
            go_quiet ((first | (go_at_call 93; exact quiet_same (HA.out _)) | (go_at_call 92; exact quiet_same (HB.out _))))
            go_wp2_with fail
            go_quiet (fail)
            go_wp2_with fail
            refine bodyPost_ret (v := .tuple #[.string (B x), .string (B y), .string (B []), .bool true]) (by simp [results, Tryz.results66, go_sem]; rfl) rfl ⟨by rw [HE.out]; rfl, ?_⟩
            exact drewsN2 hn1
          · have HE := Lib.hid (FIN.out false (by rw [ha, hb, decide_eq_false hlt]; rfl))
            clear ha hb FIN
            have hlt2 : decide (x.length < y.length) = false := decide_eq_false hlt
            go_wp2_with fail
            go_quiet ((first | (go_at_call 93; exact quiet_same (HA.out _)) | (go_at_call 92; exact quiet_same (HB.out _))))
            go_wp2_with fail
            refine (HX.out _).mono ?_
            rintro e w2 ⟨rfl, rfl⟩
            cases hbx : baseB x with
            | false =>
              have HE2 : Hid (partsR (bs s) = none) := by
                have h := HE.out
                rw [hbx] at h
                exact Lib.hid h
              clear hbx
              go_wp2_with fail
              refine bodyPost_ret (v := .tuple #[.string (B []), .string (B []), .string (B []), .bool false]) (by simp [results, Tryz.results66, go_sem]; rfl) rfl ⟨by rw [HE2.out]; rfl, drewsN hn1⟩
            | true =>
              go_wp2_with fail
              refine (HY.out _).mono ?_
              rintro e w2 ⟨rfl, rfl⟩
              cases hsy : strokeB y with
              | false =>
                have HE2 : Hid (partsR (bs s) = none) := by
                  have h := HE.out
                  rw [hbx, hsy] at h
                  exact Lib.hid h
                clear hbx hsy
                go_wp2_with fail
                refine bodyPost_ret (v := .tuple #[.string (B []), .string (B []), .string (B []), .bool false]) (by simp [results, Tryz.results66, go_sem]; rfl) rfl ⟨by rw [HE2.out]; rfl, drewsN hn1⟩
              | true =>
                have HE2 : Hid (partsR (bs s) = some ([], x, y)) := by
                  have h := HE.out
                  rw [hbx, hsy] at h
                  exact Lib.hid h
                clear hbx hsy
                go_wp2_with fail
                go_quiet (fail)
                go_wp2_with fail
                refine bodyPost_ret (v := .tuple #[.string (B []), .string (B x), .string (B y), .bool true]) (by simp [results, Tryz.results66, go_sem]; rfl) rfl ⟨by rw [HE2.out]; rfl, drewsN2 hn1⟩
    | [z, x, y] =>
      have c0 := hcell 0 z rfl
      have c1 := hcell 1 x rfl
      have c2 := hcell 2 y rfl
      have hz := hpz z (by simp)
      have hx := hpz x (by simp)
      have hy := hpz y (by simp)
      have hzs := B_size z
      have hxs := B_size x
      have hys := B_size y
      clear hcell hpz
      simp only [strV] at c0 c1 c2
      have HA : Hid (∀ wx, Calls Tryz.prog 93 #[.string (B z)] wx fun e w' => e = .returned (.bool (areaB z)) ∧ wx = w') := Lib.hid (fun wx => by have h := ref_area (B z) wx (by omega); rw [bs_B] at h; exact h)
      have HX : Hid (∀ wx, Calls Tryz.prog 92 #[.string (B x)] wx fun e w' => e = .returned (.bool (baseB x)) ∧ wx = w') := Lib.hid (fun wx => by have h := ref_base (B x) wx (by omega); rw [bs_B] at h; exact h)
      have HY : Hid (∀ wx, Calls Tryz.prog 94 #[.string (B y)] wx fun e w' => e = .returned (.bool (strokeB y)) ∧ wx = w') := Lib.hid (fun wx => by have h := ref_stroke (B y) wx (by omega); rw [bs_B] at h; exact h)
      have fin : ∀ c : Bool, (areaB z && (baseB x && strokeB y)) = c → partsR (bs s) = if c then some (z, x, y) else none := by
        intro c h; rw [HQ.out, tryR, h]
      have FIN := Lib.hid fin
      clear fin HQ
      go_wp2_with fail
      go_quiet (fail)
      go_wp2_with fail
      refine (HA.out _).mono ?_
      rintro e w2 ⟨rfl, rfl⟩
      cases ha : areaB z with
      | false =>
        have HE := Lib.hid (FIN.out false (by rw [ha]; rfl))
        clear ha FIN
        go_wp2_with fail
        refine bodyPost_ret (v := .tuple #[.string (B []), .string (B []), .string (B []), .bool false]) (by simp [results, Tryz.results66, go_sem]; rfl) rfl ⟨by rw [HE.out]; rfl, drewsN hn1⟩
      | true =>
        go_wp2_with fail
        refine (HX.out _).mono ?_
        rintro e w2 ⟨rfl, rfl⟩
        cases hb : baseB x with
        | false =>
          have HE := Lib.hid (FIN.out false (by rw [ha, hb]; rfl))
          clear ha hb FIN
          go_wp2_with fail
          refine bodyPost_ret (v := .tuple #[.string (B []), .string (B []), .string (B []), .bool false]) (by simp [results, Tryz.results66, go_sem]; rfl) rfl ⟨by rw [HE.out]; rfl, drewsN hn1⟩
        | true =>
          go_wp2_with fail
          refine (HY.out _).mono ?_
          rintro e w2 ⟨rfl, rfl⟩
          cases hc : strokeB y with
          | false =>
            have HE := Lib.hid (FIN.out false (by rw [ha, hb, hc]; rfl))
            clear ha hb hc FIN
            go_wp2_with fail
            refine bodyPost_ret (v := .tuple #[.string (B []), .string (B []), .string (B []), .bool false]) (by simp [results, Tryz.results66, go_sem]; rfl) rfl ⟨by rw [HE.out]; rfl, drewsN hn1⟩
          | true =>
            have HE := Lib.hid (FIN.out true (by rw [ha, hb, hc]; rfl))
            clear ha hb hc FIN
            go_wp2_with fail
            go_quiet (fail)
            go_wp2_with fail
            refine bodyPost_ret (v := .tuple #[.string (B z), .string (B x), .string (B y), .bool true]) (by simp [results, Tryz.results66, go_sem]) rfl ⟨by rw [HE.out]; rfl, drewsN2 hn1⟩
    | a :: b :: c :: d :: l =>
      have HE : Hid (partsR (bs s) = none) := by
        have h : partsR (bs s) = none := by rw [HQ.out]; rfl
        exact Lib.hid h
      have hl : (a :: b :: c :: d :: l).length = l.length + 4 := rfl
      rw [hl] at hcap hpl ⊢
      clear hcell hpz HQ HN hl
      obtain ⟨m, hm⟩ : ∃ m, m = l.length + 4 := ⟨_, rfl⟩
      rw [← hm] at hcap hpl ⊢
      have hm4 : 4 ≤ m := by omega
      clear hm
      have e1 : ((m : Int) == 1) = false := by rw [beq_eq_false_iff_ne]; omega
      have e2 : ((m : Int) == 2) = false := by rw [beq_eq_false_iff_ne]; omega
      have e3 : ((m : Int) == 3) = false := by rw [beq_eq_false_iff_ne]; omega
      go_wp2_with fail
      go_quiet (fail)
      go_wp2_with fail
      refine bodyPost_ret (v := .tuple #[.string (B []), .string (B []), .string (B []), .bool false]) (by simp [results, Tryz.results66, go_sem]; rfl) rfl ⟨by rw [HE.out]; rfl, drewsN hn1⟩

end Go.Proofs.YtkbdmdnahphkkaaGreatDoor
