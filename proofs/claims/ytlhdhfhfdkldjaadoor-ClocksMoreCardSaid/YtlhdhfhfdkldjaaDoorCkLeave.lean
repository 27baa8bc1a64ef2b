/-
  leaveByLoop of the program, where the edges by which the sums came have no loop: it does nothing. Condition: the wave lies in memory.
-/
import Derived.Test.YtlhdhfhfdkldjaaDoorCkWave
import Derived.Deep.LoopGhost
namespace Go.Proofs.YtlhdhfhfdkldjaaDoor
open Go Go.RowKit Go.Shelf
/-- Each place has an edge by which it came, or none. -/
def ByOk (E : List Eg) (n : Nat) (b : Nat → Int) : Prop := ∀ v, v < n → b v = -1 ∨ ∃ i : Nat, b v = i ∧ i < E.length ∧ (eAt E i).2.1 = v
theorem WI.byOk {E : List Eg} {n src : Nat} {d b : Nat → Int} (h : WI E n src d b) : ByOk E n b := fun v hv => by
  by_cases hb : b v = -1
  · exact .inl hb
  · obtain ⟨i, e, h1, h2, h3, _⟩ := h.edge v hv hb
    have hi := (List.getElem?_eq_some_iff.1 h2).1
    refine .inr ⟨i, h1, hi, ?_⟩
    rw [eAt_get hi] at h2
    rw [Option.some.inj h2]
    exact h3
set_option maxRecDepth 100000 in
set_option maxHeartbeats 4000000 in
theorem ck_leave {w0 W : World} {g sb bb n : Nat} {EA : Option Addr} {ec : Nat} {E : List Eg} {d b : Nat → Int} (h : WavA w0 W g sb bb n EA ec E d b) (hE : EOk E n 22001) (hb : ByOk E n b) (hn : n ≤ 30000) (hno : ∀ l v, l ≠ [] → Lead E v l v → ByL E b l → False) :
    Calls Tryd.prog 130 #[.pointer (some ⟨g, 0, none⟩)] W fun e w' => e = .returned (.tuple #[]) ∧ New W w' := by
  have H := Lib.hid h
  have HB := Lib.hid hb
  have HNO := Lib.hid hno
  have HEE := Lib.hid hE
  have g1 := h.row.cell (i := 1) rfl
  have hmk : ∀ w : World, (Instr.makeSlice 26 (.int .i64 n) (.int .i64 n)).run Tryd.prog w = .ok (.slice (some ⟨w.heap.size, 0, none⟩) n n) (w.alloc (.cells (Array.replicate n (.int .i64 0)) 3)) := fun w => make_row (bytes := 8) Tryd.underlying26 (by kernel_rfl) rfl (by decide) n (by omega) w
  have n1 := (New.refl W).alloc (.cells (Array.replicate n (.int .i64 0)) 3)
  have R := RowIs.zeros W 3 n (.int .i64 0)
  have eR : List.replicate n (Value.int .i64 0) = fnRow n (fun _ => 0) := by
    apply List.ext_getElem?
    intro j
    by_cases hj : j < n
    · rw [fnRow_get hj, List.getElem?_replicate]; simp [hj]
    · rw [List.getElem?_eq_none (by simp; omega), List.getElem?_eq_none (by rw [fnRow_len]; omega)]
  rw [eR] at R
  have H1 := Lib.hid (h.keep n1)
  have HN1 := Lib.hid n1
  have HR1 := Lib.hid R
  have g1' := H1.out.row.cell (i := 1) rfl
  clear h hb hno hE n1 R eR
  go_enter Tryd.func130, Tryd.ntmps130
  go_wp2_with fail
  clear g1 g1' hmk
  generalize hwk : W.heap.size = wk at *
  have HWK : Hid (wk ≠ g ∧ wk ≠ sb ∧ wk ≠ bb) := Lib.hid ⟨by have := H.out.row.lt; omega, by have := H.out.sums.lt; omega, by have := H.out.bys.lt; omega⟩
  generalize W.alloc (.cells (Array.replicate n (.int .i64 0)) 3) = W1 at *
  go_loopw [16] (fun i wr => ∃ (s : Nat) (m : Nat → Int), s ≤ n ∧ i = .int .i64 s ∧ (∀ v, v < n → 0 ≤ m v ∧ m v ≤ s) ∧ RowIs wr wk 3 (fnRow n m) ∧ WavA w0 wr g sb bb n EA ec E d b ∧ New W wr) (fun i _ => n - (intOf i).toNat)
  case atStart => exact ⟨0, fun _ => 0, Nat.zero_le _, rfl, fun _ _ => by simp, HR1.out, H1.out, HN1.out⟩
  case round =>
    obtain ⟨s, m, hs, rfl, hm, hr, hw, hnw⟩ := hrel
    obtain ⟨Wo, hWo⟩ : ∃ x, x = wr := ⟨wr, rfl⟩
    subst hWo
    by_cases hlt : s < n
    · have HM := Lib.hid hm
      have HR := Lib.hid hr
      have HW := Lib.hid hw
      have HNW := Lib.hid hnw
      have i1 : (s : Int) < (n : Int) := by omega
      clear hm hr hw hnw H1 HN1 HR1
      go_wp2_with fail
      go_loopg [4] (zerosN n m) (fun gk i wr => ∃ (x : Nat) (m' : Nat → Int), gk = zerosN n m' ∧ x < n ∧ i = .int .i64 x ∧ (∀ v, v < n → 0 ≤ m' v ∧ m' v ≤ s + 1) ∧ (∀ v, v < n → m' v = s + 1 → ∃ l, l ≠ [] ∧ Lead E x l v ∧ ByL E b l) ∧ RowIs wr wk 3 (fnRow n m') ∧ WavA w0 wr g sb bb n EA ec E d b ∧ New W wr)
      case atStart => exact ⟨s, m, rfl, hlt, rfl, fun v hv => by have := HM.out v hv; omega, fun v hv h => by have := HM.out v hv; omega, HR.out, HW.out, HNW.out⟩
      case round =>
        obtain ⟨x, m', hgk, hx, rfl, hm, hl, hr, hw, hnw⟩ := hrel
        have HM2 := Lib.hid hm
        have HL2 := Lib.hid hl
        have HR2 := Lib.hid hr
        have HW2 := Lib.hid hw
        have HN2 := Lib.hid hnw
        have HG := Lib.hid hgk
        have hmx := hm x hx
        have c1 := hr.cell (fnRow_get (f := m') hx)
        have c2 := hw.bys.cell (fnRow_get (f := b) hx)
        have g2 := hw.row.cell (i := 2) rfl
        have j1 : (x : Int) < (n : Int) := by omega
        have j2 : (0 : Int) ≤ (x : Int) := by omega
        have hbx := HB.out x hx
        clear hm hl hr hw hnw hgk
        by_cases hz : m' x = 0
        · rcases hbx with hbx | ⟨i, hbx, hi, htg⟩
          · rw [hz] at c1
            rw [hbx] at c2
            have HZ := Lib.hid hz
            have q1 : ((0 : Int) == (s : Int) + 1) = false := by simp; omega
            clear hz hbx
            go_wp2_with fail
            go_roundw
            case rel => exact ⟨s + 1, m', by omega, by go_num, fun v hv => by have := HM2.out v hv; omega, HR2.out, HW2.out, HN2.out⟩
            case measure => simp [intOf]; omega
          · rw [hz] at c1
            rw [hbx] at c2
            have hf := HEE.out.fst (eAt E i) (List.mem_of_getElem? (eAt_get hi))
            obtain ⟨eb, eo, rfl, z0, z1, z2⟩ := HW2.out.edge hi
            have ee : E[i]?.getD default = eAt E i := rfl
            rw [ee] at z0
            have hel := HW2.out.len
            have j3 : (i : Int) < (E.length : Int) := by omega
            have j4 : (0 : Int) ≤ (i : Int) := by omega
            have HZ := Lib.hid hz
            have HBX := Lib.hid hbx
            have HTG := Lib.hid htg
            have HEG : Hid (E[i]? = some (eAt E i)) := Lib.hid (eAt_get hi)
            have hq : ((i : Int) != -1) = true := by simp
            have hfz := HR2.out.free x
            clear hz hbx htg ee z1 z2
            generalize eAt E i = e at *
            obtain ⟨u, v, cc⟩ := e
            dsimp only at hf z0
            have z0' := HW2.out.new.cellOf z0
            clear z0
            go_wp2_with fail
            clear c1 c2 g2 hfz z0' hq
            have HR3 : Hid (RowIs (wr.setCell ⟨wk, x, none⟩ (.int .i64 ((s : Int) + 1))) wk 3 (fnRow n (upd m' x ((s : Int) + 1)))) := Lib.hid (by have h := HR2.out.put x (.int .i64 ((s : Int) + 1)); rwa [fnRow_set hx] at h)
            have HFR := Lib.hid (HW2.out.row.other HWK.out.1 x (.int .i64 ((s : Int) + 1)))
            have HW3 : Hid (WavA w0 (wr.setCell ⟨wk, x, none⟩ (.int .i64 ((s : Int) + 1))) g sb bb n (some ⟨eb, eo, none⟩) ec E d b) := Lib.hid ⟨HW2.out.new.setCell (by have := H.out.new.size; show w0.heap.size ≤ wk; omega) _, HW2.out.egs, HW2.out.hg, HW2.out.hs, HW2.out.hb, HW2.out.gs, HW2.out.gb, HW2.out.ne, HFR.out, HW2.out.sums.other HWK.out.2.1 _ _, HW2.out.bys.other HWK.out.2.2 _ _⟩
            have HN3 : Hid (New W (wr.setCell ⟨wk, x, none⟩ (.int .i64 ((s : Int) + 1)))) := Lib.hid (HN2.out.setCell (by show W.heap.size ≤ wk; omega) _)
            have HZZ := Lib.hid (zeros_upd n m' x ((s : Int) + 1) hx HZ.out (by omega))
            clear HR2 HW2 HN2 HFR
            generalize wr.setCell ⟨wk, x, none⟩ (.int .i64 ((s : Int) + 1)) = W3 at *
            have g0 := HW3.out.row.cell (i := 0) rfl
            have g2 := HW3.out.row.cell (i := 2) rfl
            have c2 := HW3.out.bys.cell (fnRow_get (f := b) hx)
            rw [HBX.out] at c2
            obtain ⟨eb2, eo2, heq, z0, -, -⟩ := HW3.out.edge hi
            have ee : E[i]?.getD default = (u, v, cc) := by rw [HEG.out]; rfl
            rw [ee] at z0
            simp only [Option.some.injEq, Addr.mk.injEq, and_true] at heq
            obtain ⟨rfl, rfl⟩ := heq
            dsimp only at z0
            have z0' := HW3.out.new.cellOf z0
            clear ee z0
            go_quiet (fail)
            rename_i nq
            have HW4 := Lib.hid (HW3.out.keep ((New.refl W3).drewN nq))
            have HR4 := Lib.hid (HR3.out.keep ((New.refl W3).drewN nq))
            have HN4 := Lib.hid (HN3.out.drewN nq)
            clear g0 g2 c2 z0'
            go_wp2_with fail
            go_roundg (zerosN n (upd m' x ((s : Int) + 1)))
            case measure => have h1 := HZZ.out; have h2 := HG.out; omega
            case rel =>
              refine ⟨u, upd m' x ((s : Int) + 1), rfl, hf, rfl, fun y hy => ?_, fun y hy hms => ?_, HR4.out, HW4.out, HN4.out⟩
              · unfold upd
                split
                · omega
                · exact HM2.out y hy
              · have hLx : Lead E u [i] x := ⟨(u, v, cc), HEG.out, rfl, HTG.out⟩
                have hBx : ByL E b [i] := fun j f hj hfj => by
                  rw [List.mem_singleton] at hj
                  subst hj
                  rw [HEG.out] at hfj
                  obtain rfl := Option.some.inj hfj
                  show b v = _
                  have h1 : v = x := HTG.out
                  rw [h1]; exact HBX.out
                by_cases hyx : y = x
                · subst hyx
                  exact ⟨[i], by simp, hLx, hBx⟩
                · rw [upd_other _ _ hyx] at hms
                  obtain ⟨l, hl1, hl2, hl3⟩ := HL2.out y hy hms
                  refine ⟨i :: l, by simp, ⟨(u, v, cc), HEG.out, rfl, ?_⟩, fun j f hj hfj => ?_⟩
                  · have h1 : v = x := HTG.out
                    rw [h1]; exact hl2
                  · rcases List.mem_cons.1 hj with rfl | hj
                    · exact hBx _ f (List.mem_singleton.2 rfl) hfj
                    · exact hl3 j f hj hfj
        · have hz' : (m' x == 0) = false := by simpa using hz
          have hne : m' x ≠ (s : Int) + 1 := fun e => by
            obtain ⟨l, hl1, hl2, hl3⟩ := HL2.out x hx e
            exact HNO.out l x hl1 hl2 hl3
          have hne' : (m' x == (s : Int) + 1) = false := by simpa using hne
          clear hz hne hbx
          go_wp2_with fail
          go_roundw
          case rel => exact ⟨s + 1, m', by omega, by go_num, fun v hv => by have := HM2.out v hv; omega, HR2.out, HW2.out, HN2.out⟩
          case measure => simp [intOf]; omega
    · obtain rfl : s = n := by omega
      go_wp2_with fail
      first | go_end0 | refine bodyPost_ret (results_none rfl _ _ _) rfl ?_
      exact ⟨rfl, hnw⟩
end Go.Proofs.YtlhdhfhfdkldjaaDoor
