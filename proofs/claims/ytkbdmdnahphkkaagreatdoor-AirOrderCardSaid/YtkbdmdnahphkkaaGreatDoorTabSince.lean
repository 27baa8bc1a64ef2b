/-
  Since of the program. Conditions: the texts are in memory; the library's variable MaxLen is there.
-/
import Derived.Test.YtkbdmdnahphkkaaGreatDoorTabSearch
import Derived.Test.YtkbdmdnahphkkaaGreatDoorTabSpan
namespace Go.Proofs.YtkbdmdnahphkkaaGreatDoor
open Go.RowKit
/-- What Since tells: the days around a day with its place, or an error. -/
def sinceP (l : List Rw) (call : Bytes) (d lo hi e : Int) : Prop :=
  (¬ e = 0 ∧ (plR l call d).2 = e ∧ lo = 0 ∧ hi = 0) ∨
  (e = 0 ∧ ∃ q p, askV l (splitV call) d = 0 ∧ splitV call = some q ∧ atV l call (stemV q) d = some p ∧ SpanV (fun x => atV l call (stemV q) x = some p) d lo hi)
theorem sp_new (w : World) (a b : Int) : (w.alloc (.cells #[.int .i64 a, .int .i64 b] 36)).heap[w.heap.size]? = some (.cells #[.int .i64 a, .int .i64 b] 36 (0, 0)) := heap_alloc_new w _
theorem one_new (w : World) (v : Value) (t : TypeId) : OneIn (w.alloc (.cells #[v] t)) w.heap.size v t := heap_alloc_new w _
theorem i_mf (fn : Fn) (first cap : Array Value) (w : World) : (Instr.makeFunc fn first cap).run Tryz.prog w = .ok (.func fn first cap) w := rfl
set_option maxRecDepth 100000 in
set_option maxHeartbeats 8000000 in
theorem air_Since (A : Option Addr) (n c : Nat) (l : List Rw) (call : Bytes) (d : Int) (w : World) (hmx : HasMax w) (hl : RowsAt w A n l) (hn : n ≤ 9223372036854775807) (ht : TextsIn l) (hs : call.length ≤ maxLen) :
    Calls Tryz.prog 17 #[.slice A n c, .string (B call), .int .i64 d] w fun e w' => ∃ lo hi er : Int, e = .returned (.tuple #[.agg #[.int .i64 lo, .int .i64 hi], .int .i64 er]) ∧ New w w' ∧ sinceP l call d lo hi er := by
  have hmf := i_mf
  have HL := Lib.hid hl
  have HLN := Lib.hid hl.1
  have HN0 := Lib.hid (((New.refl w).alloc (.cells #[.int .i64 d] 3)).alloc (.cells #[.int .i64 0, .int .i64 0] 36))
  have HD0 := Lib.hid ((one_new w (.int .i64 d) 3).keep ((New.refl _).alloc (.cells #[.int .i64 0, .int .i64 0] 36)))
  have HS0 : Hid (((w.alloc (.cells #[.int .i64 d] 3)).alloc (.cells #[.int .i64 0, .int .i64 0] 36)).heap[w.heap.size + 1]? = some (.cells #[.int .i64 0, .int .i64 0] 36 (0, 0))) := by
    have h := sp_new (w.alloc (.cells #[.int .i64 d] 3)) 0 0
    exact Lib.hid (by simpa using h)
  clear hl
  go_enter Tryz.func17, Tryz.ntmps17
  go_wp2_with fail
  refine (air_lookUp A n c l (B call) d _ (hmx.keep HN0.out) (HL.out.keep HN0.out) hn ht (by rw [B_size]; unfold maxLen at hs; omega)).mono ?_
  rintro e w1 ⟨h1, ⟨x, hx, h0, rfl⟩ | ⟨q, base, b, hx, hq, htb, hd, rfl, hm⟩⟩
  · rw [bs_B] at hx
    have HR := Lib.hid (plR_bad hx h0)
    have H0 := Lib.hid h0
    have HA := Lib.hid (fun o => two_all (heap_keep ((New.refl w1).alloc o) (heap_keep h1 HS0.out)))
    have r0 := fun o => (HA.out o).1
    have r1 := fun o => (HA.out o).2.1
    have f0 := fun o => (HA.out o).2.2.1
    have f1 := fun o => (HA.out o).2.2.2
    clear hx
    go_wp2_with fail
    refine bodyPost_ret (v := .tuple #[.agg #[.int .i64 0, .int .i64 0], .int .i64 x]) (by simp [results, Tryz.results17, go_sem, r0, r1]) rfl ⟨0, 0, x, rfl, ?_, .inl ⟨H0.out, by rw [HR.out], rfl, rfl⟩⟩
    exact (((HN0.out.trans h1).alloc _).setCell (Nat.le_succ _) _).setCell (Nat.le_succ _) _
  · rw [bs_B] at hx hq
    have HX := Lib.hid hx
    have HQ := Lib.hid hq
    have HV := Lib.hid (show rowsB l = true from by unfold tabB at htb; exact (Bool.and_eq_true_iff.1 htb).1)
    have h4 : n ≤ 400 := by have := rowsB_len HV.out; rw [HLN.out] at this; exact this
    have hsl : (stemV q).length ≤ maxLen := by have := stem_len hq; unfold maxLen; omega
    have HK1 := Lib.hid ((New.refl w1).alloc (.cells #[.slice A n c, .map (some b), .string (B call), .string (B (stemV q))] 69))
    have HN := Lib.hid ((HN0.out.trans h1).trans HK1.out)
    have HD := Lib.hid (HD0.out.keep (h1.trans HK1.out))
    have HS := Lib.hid (heap_keep (h1.trans HK1.out) HS0.out)
    have HST := Lib.hid (StIn.new w1 A n c b call (stemV q))
    have HM := Lib.hid (hm.keep HK1.out)
    obtain ⟨s0, s1, s2, s3⟩ := HST.out.all
    have d0 := HD.out.cell
    clear hx hq htb hd h1 HN0 HD0 HS0 hm
    generalize hstem : stemV q = stem at *
    have HSTEM := Lib.hid hstem
    clear hstem
    go_wp2_with fail
    generalize hW : w1.alloc (.cells #[.slice A n c, .map (some b), .string (B call), .string (B stem)] 69) = W1 at *
    clear hW
    refine (air_place A n c base b l call stem d W1 (HL.out.keep HN.out) HM.out h4 hs hsl).mono ?_
    rintro e w2 ⟨rfl, h2⟩
    have HN2 := Lib.hid (HN.out.trans h2)
    have HD2 := Lib.hid (HD.out.keep h2)
    have HS2 := Lib.hid (heap_keep h2 HS.out)
    have HST2 := Lib.hid (HST.out.keep h2)
    have HW12 := Lib.hid h2
    clear h2 HN HD HS HST s0 s1 s2 s3 d0
    cases hr : atV l call stem d with
    | none =>
      have HR := Lib.hid (plR_none HX.out HQ.out (by rw [HSTEM.out]; exact hr))
      have HA := Lib.hid (fun o => two_all (heap_keep ((New.refl w2).alloc o) HS2.out))
      have r0 := fun o => (HA.out o).1
      have r1 := fun o => (HA.out o).2.1
      have f0 := fun o => (HA.out o).2.2.1
      have f1 := fun o => (HA.out o).2.2.2
      clear hr
      rw [pl3_none]
      go_wp2_with fail
      refine bodyPost_ret (v := .tuple #[.agg #[.int .i64 0, .int .i64 0], .int .i64 3]) (by simp [results, Tryz.results17, go_sem, r0, r1]) rfl ⟨0, 0, 3, rfl, ?_, .inl ⟨by decide, by rw [HR.out], rfl, rfl⟩⟩
      exact ((HN2.out.alloc _).setCell (Nat.le_succ _) _).setCell (Nat.le_succ _) _
    | some p =>
      have HR := Lib.hid hr
      clear hr
      rw [pl3_some]
      have HK3 := Lib.hid ((New.refl w2).alloc (.cells #[.int .i64 p.1, .int .i64 p.2.1, .int .i64 p.2.2] 30))
      have HN3 := Lib.hid (HN2.out.trans HK3.out)
      have HD3 := Lib.hid (HD2.out.keep HK3.out)
      have HS3 := Lib.hid (heap_keep HK3.out HS2.out)
      have HST3 := Lib.hid (HST2.out.keep HK3.out)
      have HP3 : Hid (PlIn (w2.alloc (.cells #[.int .i64 p.1, .int .i64 p.2.1, .int .i64 p.2.2] 30)) w2.heap.size p) := Lib.hid (pl_new w2 p.1 p.2.1 p.2.2)
      obtain ⟨s0, s1, s2, s3⟩ := HST3.out.all
      have h0n : 0 < n := by
        obtain ⟨x, hx, _⟩ := at_in HR.out
        have := List.length_pos_of_mem hx
        rw [HLN.out] at this
        exact this
      clear HN2 HD2 HS2 HST2
      go_wp2_with fail
      generalize hW : w2.alloc (.cells #[.int .i64 p.1, .int .i64 p.2.1, .int .i64 p.2.2] 30) = W3 at *
      clear hW
      generalize w2.heap.size = gp at *
      refine (air_turns A n c b l call stem W3 (HL.out.keep HN3.out) HV.out h0n).mono ?_
      rintro e w4 ⟨g, cap, rfl, h4', hta⟩
      have HTV := Lib.hid (turns_turns l)
      have HRG : Hid (∀ i, i < (turnsV l).length → 0 ≤ (turnsV l).getD i 0 ∧ (turnsV l).getD i 0 ≤ 100000) := Lib.hid (fun i hi => turn_range (turns_turns l) (fun r hr => by have := rows_days HV.out hr; omega) hi)
      have HML : Hid ((turnsV l).length ≤ 800) := Lib.hid (by
        have h1 := Lib.compact_length_le (sortI (daysL l))
        have h2 := sortI_len (daysL l)
        have h3 := days_len l
        have h4 := HLN.out
        unfold turnsV
        omega)
      obtain ⟨ts, hts⟩ : ∃ ts, turnsV l = ts := ⟨_, rfl⟩
      rw [hts] at HTV HRG HML hta ⊢
      clear hts
      obtain ⟨m, hm⟩ : ∃ m, ts.length = m := ⟨_, rfl⟩
      rw [hm] at HRG HML ⊢
      have hm8 := HML.out
      have HK5 := Lib.hid (h4'.trans ((New.refl w4).alloc (.cells #[.slice (some ⟨g, 0, none⟩) m cap] 51)))
      have HT5 : Hid (OneIn (w4.alloc (.cells #[.slice (some ⟨g, 0, none⟩) m cap] 51)) w4.heap.size (.slice (some ⟨g, 0, none⟩) m cap) 51) := Lib.hid (one_new _ _ _)
      have HTA := Lib.hid (hta.keep ((New.refl w4).alloc (.cells #[.slice (some ⟨g, 0, none⟩) m cap] 51)))
      clear hta h4' s0 s1 s2 s3
      generalize hW : w4.alloc (.cells #[.slice (some ⟨g, 0, none⟩) m cap] 51) = W5 at *
      have HN5 := Lib.hid (HN3.out.trans HK5.out)
      have HD5 := Lib.hid (HD3.out.keep HK5.out)
      have HS5 := Lib.hid (heap_keep HK5.out HS3.out)
      have HST5 := Lib.hid (HST3.out.keep HK5.out)
      have HP5 := Lib.hid (HP3.out.keep HK5.out)
      have HM5 := Lib.hid (HM.out.keep (HW12.out.trans (HK3.out.trans HK5.out)))
      have HL5 := Lib.hid (HL.out.keep HN5.out)
      have HC : Hid (∀ (x : Int) (u : World), New W5 u → Calls Tryz.prog 40 #[.int .i64 x, .pointer (some ⟨w1.heap.size, 0, none⟩), .pointer (some ⟨gp, 0, none⟩)] u fun e w' => e = .returned (.bool (decide (atV l call stem x = some p))) ∧ New u w') :=
        Lib.hid (fun x u hu => air_same A n c base b w1.heap.size gp l call stem x p u (HL5.out.keep hu) (HM5.out.keep hu) h4 hs hsl (HST5.out.keep hu) (HP5.out.keep hu))
      have HSR := Lib.hid (lib_Search d g m cap w4.heap.size w.heap.size ts W5 HTA.out hm (by omega) HT5.out HD5.out (fun i j hij hj h => by
        unfold overB at h ⊢
        simp only [decide_eq_true_eq] at h ⊢
        by_cases hc : i = j
        · rw [← hc]; exact h
        · have := HTV.out.rise i j (by omega) (by omega); omega))
      have HW := Lib.hid hW
      clear hW HM HW12 HK3 HK5 HD3 HS3 HST3 HP3
      go_wp2_with fail
      rw [HW.out]
      clear HW
      generalize w4.heap.size = gt at *
      refine HSR.out.mono ?_
      rintro e w6 ⟨r, rfl, h6, hrm, hr0, hr1⟩
      have hr0' : ∀ k, k < r → ¬ d < ts.getD k 0 := fun k hk h => by
        have h2 := hr0 k hk
        unfold overB at h2
        rw [decide_eq_true h] at h2
        cases h2
      have hr1' : ∀ k, r ≤ k → k < ts.length → d < ts.getD k 0 := fun k h1 h2 => by
        have h3 := hr1 k h1 (by omega)
        unfold overB at h3
        exact of_decide_eq_true h3
      obtain ⟨hrp, hrl⟩ := turns_around HTV.out HR.out hr0' hr1'
      have hd0 := hr0' (r - 1) (by omega)
      have hd1 := hr1' r (Nat.le_refl _) hrl
      have HDN := Lib.hid (down_start HTV.out HR.out hrl hrp hd1 hd0)
      have HUP := Lib.hid (up_start HTV.out HR.out hrl hrp hd0)
      have HD0' := Lib.hid (show ts.getD (r - 1) 0 ≤ d by omega)
      have HD1' := Lib.hid hd1
      have hwr : (r : Int) - 1 = ((r - 1 : Nat) : Int) := by omega
      clear hr0 hr1 hr0' hr1' hd0 hd1 HSR
      go_wp2_with fail
      go_loopw [15] (fun x wr => ∃ f : Nat, x = .int .i64 f ∧ f < r ∧ New W5 wr ∧ Hid (ts.getD f 0 ≤ d) ∧ Hid (downV (fun x => atV l call stem x = some p) ts d f)) (fun x _ => (intOf x).toNat)
      case atStart => exact ⟨r - 1, by first | rw [hwr] | rfl, by omega, h6, HD0', HDN⟩
      case round =>
        obtain ⟨f, rfl, hfr, hnew, HFD, HFV⟩ := hrel
        by_cases hgo : 0 < f ∧ atV l call stem (ts.getD (f - 1) 0) = some p
        · obtain ⟨hf0, hsm⟩ := hgo
          have hfi : (0 : Int) < (f : Int) := by omega
          have hwf : (f : Int) - 1 = ((f - 1 : Nat) : Int) := by omega
          have hz := (HTA.out.keep hnew) (f - 1) (by omega)
          have hq1 : (0 : Int) ≤ ((f - 1 : Nat) : Int) := by omega
          have hq2 : ((f - 1 : Nat) : Int) < (m : Int) := by omega
          have t0 := (HT5.out.keep hnew).cell
          have HSM := Lib.hid (down_step HTV.out (by omega) hf0 HFV.out hsm)
          have HFE := Lib.hid (show ts.getD (f - 1) 0 ≤ d from by have := HTV.out.rise (f - 1) f (by omega) (by omega); have := HFD.out; omega)
          have HCC := HC.out (ts.getD (f - 1) 0) wr hnew
          rw [decide_eq_true hsm] at HCC
          have HCC := Lib.hid HCC
          clear hsm
          obtain ⟨z, hzz⟩ : ∃ z, ts.getD (f - 1) 0 = z := ⟨_, rfl⟩
          rw [hzz] at hz HCC
          clear hzz
          go_wp2_with fail
          refine HCC.out.mono ?_
          rintro e w7 ⟨rfl, h7⟩
          clear hz t0
          go_wp2_with fail
          exact ⟨⟨f - 1, by first | rw [hwf] | rfl, by omega, hnew.trans h7, HFE, HSM⟩, by simp [intOf]; omega⟩
        · have he : f = 0 ∨ (0 < f ∧ ¬ atV l call stem (ts.getD (f - 1) 0) = some p) := by
            by_cases h0 : 0 < f
            · exact .inr ⟨h0, fun h => hgo ⟨h0, h⟩⟩
            · exact .inl (by omega)
          have HLOW := Lib.hid (down_end HTV.out (call := call) (s := stem) (p := p) (by omega) he)
          clear hgo
          rcases he with h00 | ⟨hf0, hsm⟩
          case' inl =>
            have HNX := Lib.hid hnew
            have hfi : ¬ (0 : Int) < (f : Int) := by omega
            clear h00
            go_wp2_with fail
          case' inr =>
            have hfi : (0 : Int) < (f : Int) := by omega
            have hwf : (f : Int) - 1 = ((f - 1 : Nat) : Int) := by omega
            have hz := (HTA.out.keep hnew) (f - 1) (by omega)
            have hq1 : (0 : Int) ≤ ((f - 1 : Nat) : Int) := by omega
            have hq2 : ((f - 1 : Nat) : Int) < (m : Int) := by omega
            have t0 := (HT5.out.keep hnew).cell
            have HCC := HC.out (ts.getD (f - 1) 0) wr hnew
            rw [decide_eq_false hsm] at HCC
            have HCC := Lib.hid HCC
            clear hsm
            obtain ⟨z, hzz⟩ : ∃ z, ts.getD (f - 1) 0 = z := ⟨_, rfl⟩
            rw [hzz] at hz HCC
            clear hzz
            go_wp2_with fail
            refine HCC.out.mono ?_
            rintro e w7 ⟨rfl, h7⟩
            have HNX := Lib.hid (hnew.trans h7)
            clear hz t0
            go_wp2_with fail
          all_goals
            go_loopw [14] (fun x wv => ∃ q : Nat, x = .int .i64 q ∧ r ≤ q ∧ q < m ∧ New W5 wv ∧ Hid (d < ts.getD q 0) ∧ Hid (upV (fun x => atV l call stem x = some p) ts d q)) (fun x _ => m - (intOf x).toNat)
            case atStart => exact ⟨r, rfl, Nat.le_refl _, by omega, HNX.out, HD1', HUP⟩
            case round =>
              obtain ⟨q, rfl, hrq, hqm, hnew2, HQD, HQV⟩ := hrel
              have hz := (HTA.out.keep hnew2) q (by omega)
              have hq3 : (0 : Int) ≤ (q : Int) := by omega
              have hq4 : (q : Int) < (m : Int) := by omega
              have t0 := (HT5.out.keep hnew2).cell
              have HCC := HC.out (ts.getD q 0) _ hnew2
              by_cases hsm : atV l call stem (ts.getD q 0) = some p
              · rw [decide_eq_true hsm] at HCC
                have HCC := Lib.hid HCC
                obtain ⟨hq5, hq6⟩ := up_step HTV.out (by omega) HQV.out hsm
                have HQ6 := Lib.hid hq6
                have HQ7 := Lib.hid (show d < ts.getD (q + 1) 0 from by have := HTV.out.rise q (q + 1) (by omega) hq5; have := HQD.out; omega)
                clear hsm hq6
                obtain ⟨z, hzz⟩ : ∃ z, ts.getD q 0 = z := ⟨_, rfl⟩
                rw [hzz] at hz HCC
                clear hzz
                go_wp2_with fail
                refine HCC.out.mono ?_
                rintro e w8 ⟨rfl, h8⟩
                clear hz t0
                go_wp2_with fail
                exact ⟨⟨q + 1, rfl, by omega, by omega, hnew2.trans h8, HQ7, HQ6⟩, by simp [intOf]; omega⟩
              · rw [decide_eq_false hsm] at HCC
                have HCC := Lib.hid HCC
                have HSP := Lib.hid (span_of HFD.out HQD.out HFV.out HQV.out HLOW.out hsm)
                have hzf := (HTA.out.keep hnew2) f (by omega)
                have HQR := HRG.out q hqm
                clear hsm
                obtain ⟨lo, hlo⟩ : ∃ lo, ts.getD f 0 = lo := ⟨_, rfl⟩
                obtain ⟨z, hzz⟩ : ∃ z, ts.getD q 0 = z := ⟨_, rfl⟩
                rw [hlo] at hzf HSP
                rw [hzz] at hz HCC HSP HQR
                have hqf1 : (0 : Int) ≤ (f : Int) := by omega
                have hqf2 : (f : Int) < (m : Int) := by omega
                have hzw : wrap64 (z - 1) = z - 1 := by unfold wrap64; omega
                clear hlo hzz
                go_wp2_with fail
                refine HCC.out.mono ?_
                rintro e w8 ⟨rfl, h8⟩
                have HN8 := Lib.hid (hnew2.trans h8)
                replace t0 := (HT5.out.keep HN8.out).cell
                replace hz := h8.cellOf hz
                replace hzf := h8.cellOf hzf
                obtain ⟨r0, r1, f0, f1⟩ := two_all (heap_keep HN8.out HS5.out)
                go_wp2_with fail
                go_region
                go_wp2_with fail
                refine bodyPost_ret (v := .tuple #[.agg #[.int .i64 lo, .int .i64 (z - 1)], .int .i64 0]) (by simp [results, Tryz.results17, go_sem, r0, r1]) rfl ⟨lo, z - 1, 0, rfl, ?_, .inr ⟨rfl, _, p, HX.out, HQ.out, by rw [HSTEM.out]; exact HR.out, by rw [HSTEM.out]; exact HSP.out⟩⟩
                exact (((HN5.out.trans HN8.out).setCell (Nat.le_succ _) _).setCell (Nat.le_succ _) _).drew

end Go.Proofs.YtkbdmdnahphkkaaGreatDoor
