/-
  ClocksLoops, its walk. Condition: the system, the bounds and the times lie in memory, the variable beginning holds what the program's text lays.
-/
import Derived.Test.YtodmbcoobjcooaaDoorCkFindL
import Derived.Test.YtodmbcoobjcooaaDoorCkOpen3
import Derived.Test.YtodmbcoobjcooaaDoorCkAwake
namespace Go.Proofs.YtodmbcoobjcooaaDoor
open Go Go.RowKit Go.Shelf
open Go.ChangeShapes Go.WideShapes Go.ChangeAt Go.Deep
attribute [local go_sem] Oper.semAt_some
theorem chain_uncons {f t : Rf} {b : Bd} {l : List Bd} (h : ChainP f (b :: l) t) : b.frm = f ∧ ChainP b.to l t := by
  obtain ⟨h3, h4⟩ := h
  have key : ∀ i, curF f (b :: l) (i + 1) = curF b.to l i := fun i => by
    cases i with
    | zero => rfl
    | succ i => rfl
  refine ⟨h3 0 (by simp), fun i hi => ?_, ?_⟩
  · have := h3 (i + 1) (by simpa using hi)
    rw [key] at this
    simpa using this
  · rw [List.length_cons, key] at h4
    exact h4
theorem chain_pot {s : Sy} {p : Nat → Int} (hp : ∀ e, e ∈ egs s → p e.2.1 ≤ p e.1 + e.2.2) : ∀ (l : List Bd) (f t : Rf), ChainP f l t → (∀ b ∈ l, b ∈ bnds s) → p (plc s t) ≤ p (plc s f) + sumB l
  | [], f, t, h, _ => by
    have e : f = t := h.2
    subst e
    simp [sumB]
  | b :: l, f, t, h, hm => by
    obtain ⟨h1, h2⟩ := chain_uncons h
    have a := chain_pot hp l b.to t h2 (fun c hc => hm c (List.mem_cons_of_mem _ hc))
    have k := hp _ (List.mem_map.2 ⟨b, hm b (List.mem_cons_self ..), rfl⟩ : egOf s b ∈ egs s)
    have k2 : p (plc s b.to) ≤ p (plc s b.frm) + b.most := k
    rw [h1] at k2
    have e : sumB (b :: l) = b.most + sumB l := by simp [sumB]
    omega
theorem loop_open {s : Sy} {l : List Bd} (h : LoopP s l) : ¬Closes (egs s) := fun ⟨p, hp⟩ => by
  have := chain_pot hp l _ _ h.2.1.2.1 h.2.1.2.2
  have := h.2.2
  omega
set_option maxRecDepth 100000 in
set_option maxHeartbeats 8000000 in
theorem law_loops (s : Sy) (x : List Bd) (l : List (List Int)) (A D X L : Option Addr) (c d xc lc : Nat) (w : World) (hM : SysM w A D s) (hbeg : BegA w) (hX : BnsA w X x) (hxw : ∀ b ∈ x, BdW b) (hL : IssA w L l) :
    Calls Tryd.prog 9 #[.agg #[.slice A s.tracks.length c, .slice D s.ties.length d, .int .i64 s.window], .slice X x.length xc, .slice L l.length lc] w fun e w' => e = .returned (.bool true) ∧ New w w' := by
  have n1 := (New.refl w).alloc (.cells #[.slice A s.tracks.length c, .slice D s.ties.length d, .int .i64 s.window] 25)
  have HR1 := Lib.hid (RowIs.new w 25 [.slice A s.tracks.length c, .slice D s.ties.length d, .int .i64 s.window])
  have HN := Lib.hid n1
  have HAW := Lib.hid (law_awake _ ⟨n1.cellOf hbeg.1, n1.cellOf hbeg.2⟩)
  have HFW : Hid (∀ w', New w w' → _) := Lib.hid fun w' h => law_few s A D c d w' (hM.keep h)
  have HFL : Hid (∀ w', New w w' → _) := Lib.hid fun w' h => ck_FindLoop s A D c d w' (hM.keep h) ⟨h.cellOf hbeg.1, h.cellOf hbeg.2⟩
  have HTE : Hid (∀ w', ¬(checkE s = 0 ∧ Closes (egs s)) → New w w' → _) := Lib.hid fun w' hn h => ck_TimesE s A D c d w' (hM.keep h) ⟨h.cellOf hbeg.1, h.cellOf hbeg.2⟩ hn
  have HTC : Hid (∀ w', checkE s = 0 → Closes (egs s) → New w w' → _) := Lib.hid fun w' hs hc h => ck_TimesC s hs hc A D c d w' (hM.keep h) ⟨h.cellOf hbeg.1, h.cellOf hbeg.2⟩
  have HKE : Hid (∀ w', New w w' → _) := Lib.hid fun w' h => ck_Keeps s l A D L c d lc w' (hM.keep h) ⟨h.cellOf hbeg.1, h.cellOf hbeg.2⟩ (hL.keep h)
  have HVX : Hid (∀ w', New w w' → _) := Lib.hid fun w' h => ck_ValidLoop s x A D X c d xc w' (hM.keep h) ⟨h.cellOf hbeg.1, h.cellOf hbeg.2⟩ (hX.keep h) hxw
  have HVL : Hid (∀ w' (Y : Option Addr) (y : List Bd) (yc : Nat), New w w' → BnsA w' Y y → (∀ b ∈ y, BdW b) → _) := Lib.hid fun w' Y y yc h hy hw => ck_ValidLoop s y A D Y c d yc w' (hM.keep h) ⟨h.cellOf hbeg.1, h.cellOf hbeg.2⟩ hy hw
  have hxl := hX.1
  have hll := hL.1
  clear hM hbeg hL hX hxw n1
  have c0 := HR1.out.cell (i := 0) rfl
  have c1 := HR1.out.cell (i := 1) rfl
  have c2 := HR1.out.cell (i := 2) rfl
  go_enter Tryd.func9, Tryd.ntmps9
  go_wp2_with fail
  refine HAW.out.mono ?_
  rintro e w1 ⟨rfl, m1⟩
  have HN1 := Lib.hid (HN.out.trans m1)
  have HA1 := Lib.hid (HR1.out.keep m1)
  clear c0 c1 c2 m1 HR1 HAW
  have c0 := HA1.out.cell (i := 0) rfl
  have c1 := HA1.out.cell (i := 1) rfl
  have c2 := HA1.out.cell (i := 2) rfl
  go_wp2_with fail
  refine (HFW.out _ HN1.out).mono ?_
  rintro e w2 ⟨⟨fb, rfl⟩, m2⟩
  have HN2 := Lib.hid (HN1.out.trans m2)
  have HB1 := Lib.hid (HA1.out.keep m2)
  clear c0 c1 c2 m2 HA1 HFW
  have c0 := HB1.out.cell (i := 0) rfl
  have c1 := HB1.out.cell (i := 1) rfl
  have c2 := HB1.out.cell (i := 2) rfl
  cases fb with
  | false =>
    go_wp2_with fail
    go_ret
    exact ⟨rfl, HN2.out⟩
  | true =>
  by_cases h100 : 100 < l.length
  · have h100' : decide (100 < (l.length : Int)) = true := by simp; omega
    go_wp2_with fail
    go_ret
    exact ⟨rfl, HN2.out⟩
  have h100' : decide (100 < (l.length : Int)) = false := by simp; omega
  by_cases h200 : 200 < x.length
  · have h200' : decide (200 < (x.length : Int)) = true := by simp; omega
    go_wp2_with fail
    go_ret
    exact ⟨rfl, HN2.out⟩
  have h200' : decide (200 < (x.length : Int)) = false := by simp; omega
  go_wp2_with fail
  refine (HFL.out _ HN2.out).mono ?_
  rintro e w3 hfl
  clear h100' h200' h100 h200
  rcases hfl with ⟨hno, rfl, m3⟩ | ⟨⟨hce, hcl⟩, FA, fl, fc, rfl, m3, hfb, hlp⟩
  · have HN3 := Lib.hid (HN2.out.trans m3)
    have HC1 := Lib.hid (HB1.out.keep m3)
    clear c0 c1 c2 m3 HB1
    have c0 := HC1.out.cell (i := 0) rfl
    have c1 := HC1.out.cell (i := 1) rfl
    have c2 := HC1.out.cell (i := 2) rfl
    by_cases hce : checkE s = 0
    · have hcl : Closes (egs s) := Classical.byContradiction fun h => hno ⟨hce, h⟩
      have HT := Lib.hid (HTC.out _ hce hcl HN3.out)
      have HCE := Lib.hid hce
      have HXN : Hid (¬LoopP s x) := Lib.hid fun h => loop_open h hcl
      rw [if_pos hce]
      clear hno hce hcl HTC HTE
      go_wp2_with fail
      refine HT.out.mono ?_
      rintro e w4 ⟨TA, ta, rfl, m4, -⟩
      have HN4 := Lib.hid (HN3.out.trans m4)
      have HD1 := Lib.hid (HC1.out.keep m4)
      clear c0 c1 c2 m4 HC1 HT
      have c0 := HD1.out.cell (i := 0) rfl
      have c1 := HD1.out.cell (i := 1) rfl
      have c2 := HD1.out.cell (i := 2) rfl
      go_wp2_with fail
      refine (HKE.out _ HN4.out).mono ?_
      rintro e w5 ⟨rfl, m5⟩
      rw [HCE.out]
      generalize keepsB s l = kp at *
      have HN5 := Lib.hid (HN4.out.trans m5)
      have HE1 := Lib.hid (HD1.out.keep m5)
      clear c0 c1 c2 m5 HD1
      have c0 := HE1.out.cell (i := 0) rfl
      have c1 := HE1.out.cell (i := 1) rfl
      have c2 := HE1.out.cell (i := 2) rfl
      go_wp2_with fail
      refine (HVX.out _ HN5.out).mono ?_
      rintro e w6 ⟨r, rfl, m6, hr⟩
      have hrf : r = false := by
        cases r with
        | false => rfl
        | true => exact absurd (hr.1 rfl) HXN.out
      subst hrf
      rw [HCE.out]
      have HN6 := Lib.hid (HN5.out.trans m6)
      clear c0 c1 c2 m6 hr HE1
      go_wp2_with fail
      go_ret
      exact ⟨rfl, HN6.out⟩
    · have HT := Lib.hid (HTE.out _ (fun h => hce h.1) HN3.out)
      have HCE := Lib.hid hce
      have hne : (checkE s != 0) = true := by simp [hce]
      have HKF : Hid (keepsB s l = false) := Lib.hid (keeps_not fun h => hce h.1)
      rw [if_neg hce]
      clear hno HTC HTE
      go_wp2_with fail
      refine HT.out.mono ?_
      rintro e w4 ⟨er, rfl, m4, hae, -⟩
      have her : er = checkE s := by
        rcases hae with ⟨-, h⟩ | ⟨h, -⟩
        · exact h
        · exact absurd h hce
      subst her
      have HN4 := Lib.hid (HN3.out.trans m4)
      have HD1 := Lib.hid (HC1.out.keep m4)
      clear c0 c1 c2 m4 HC1 HT hae hce
      have c0 := HD1.out.cell (i := 0) rfl
      have c1 := HD1.out.cell (i := 1) rfl
      have c2 := HD1.out.cell (i := 2) rfl
      go_wp2_with fail
      refine (HKE.out _ HN4.out).mono ?_
      rintro e w5 ⟨rfl, m5⟩
      have HN5 := Lib.hid (HN4.out.trans m5)
      have HE1 := Lib.hid (HD1.out.keep m5)
      clear c0 c1 c2 m5 HD1
      have c0 := HE1.out.cell (i := 0) rfl
      have c1 := HE1.out.cell (i := 1) rfl
      have c2 := HE1.out.cell (i := 2) rfl
      go_wp2_with fail
      refine (HVX.out _ HN5.out).mono ?_
      rintro e w6 ⟨r, rfl, m6, -⟩
      have HN6 := Lib.hid (HN5.out.trans m6)
      clear c0 c1 c2 m6 HE1
      generalize checkE s = er at *
      go_wp2_with fail
      go_ret
      exact ⟨rfl, HN6.out⟩
  · have hnb : ¬(checkE s = 0 ∧ Closes (egs s)) := fun h => hcl h.2
    have HN3 := Lib.hid (HN2.out.trans m3)
    have HC1 := Lib.hid (HB1.out.keep m3)
    have HT := Lib.hid (HTE.out _ hnb HN3.out)
    have HCE := Lib.hid hce
    have HKF : Hid (keepsB s l = false) := Lib.hid (keeps_not hnb)
    have HFB := Lib.hid hfb
    have HLP := Lib.hid hlp
    have hfl := hfb.1
    clear c0 c1 c2 m3 HB1 HTC HTE hfb hlp
    have c0 := HC1.out.cell (i := 0) rfl
    have c1 := HC1.out.cell (i := 1) rfl
    have c2 := HC1.out.cell (i := 2) rfl
    go_wp2_with fail
    refine HT.out.mono ?_
    rintro e w4 ⟨er, rfl, m4, hae, -⟩
    have her : er = 31 := by
      rcases hae with ⟨h, -⟩ | ⟨-, -, h⟩
      · exact absurd hce h
      · exact h
    subst her
    have HN4 := Lib.hid (HN3.out.trans m4)
    have HD1 := Lib.hid (HC1.out.keep m4)
    have HFC := Lib.hid (HFB.out.keep m4)
    clear c0 c1 c2 m4 HC1 HT hae hce hcl hnb
    have c0 := HD1.out.cell (i := 0) rfl
    have c1 := HD1.out.cell (i := 1) rfl
    have c2 := HD1.out.cell (i := 2) rfl
    go_wp2_with fail
    refine (HKE.out _ HN4.out).mono ?_
    rintro e w5 ⟨rfl, m5⟩
    rw [HCE.out, HKF.out]
    have HN5 := Lib.hid (HN4.out.trans m5)
    have HE1 := Lib.hid (HD1.out.keep m5)
    have HFD := Lib.hid (HFC.out.keep m5)
    clear c0 c1 c2 m5 HD1
    have c0 := HE1.out.cell (i := 0) rfl
    have c1 := HE1.out.cell (i := 1) rfl
    have c2 := HE1.out.cell (i := 2) rfl
    go_wp2_with fail
    refine (HVX.out _ HN5.out).mono ?_
    rintro e w6 ⟨r, rfl, m6, -⟩
    rw [HCE.out]
    have HN6 := Lib.hid (HN5.out.trans m6)
    have HF1 := Lib.hid (HE1.out.keep m6)
    have HFE := Lib.hid (HFD.out.keep m6)
    clear c0 c1 c2 m6 HE1
    have c0 := HF1.out.cell (i := 0) rfl
    have c1 := HF1.out.cell (i := 1) rfl
    have c2 := HF1.out.cell (i := 2) rfl
    have HV := Lib.hid (HVL.out w6 FA fl fc HN6.out HFE.out (fun b hb => bnds_wf HCE.out (HLP.out.2.1.2.2 b hb)))
    cases r with
    | false =>
      go_wp2_with fail
      refine HV.out.mono ?_
      rintro e w7 ⟨r, rfl, m7, hr⟩
      obtain rfl := hr.2 HLP.out
      rw [HCE.out]
      have HN7 := Lib.hid (HN6.out.trans m7)
      clear c0 c1 c2 m7 hr
      go_wp2_with fail
      go_ret
      exact ⟨rfl, HN7.out⟩
    | true =>
      go_wp2_with fail
      refine HV.out.mono ?_
      rintro e w7 ⟨r, rfl, m7, hr⟩
      obtain rfl := hr.2 HLP.out
      rw [HCE.out]
      have HN7 := Lib.hid (HN6.out.trans m7)
      clear c0 c1 c2 m7 hr
      go_wp2_with fail
      go_ret
      exact ⟨rfl, HN7.out⟩
end Go.Proofs.YtodmbcoobjcooaaDoor
