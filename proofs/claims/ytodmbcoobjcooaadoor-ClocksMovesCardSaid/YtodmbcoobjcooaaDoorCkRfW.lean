/-
  The specification: backward. Condition: the system lies in memory, is valid, and closes.
-/
import Derived.Test.YtodmbcoobjcooaaDoorCkRfQ
namespace Go.Proofs.YtodmbcoobjcooaaDoor
open Go Go.RowKit Go.Shelf
attribute [local go_sem] Oper.semAt_some
theorem RW.fix {s : Sy} (hs : Ok s) (hc : Closes (egs s)) {T : Nat} {d : Nat → Int} (h : RW (turnE (egs s)) (nPl s) 0 T d) : RW (turnE (egs s)) (nPl s) 0 30000 d :=
  ⟨h.own, h.le, fun v hv => by
    by_cases e : d v = FAR
    · rw [e]; unfold FAR; omega
    · have h1 := (h.walk v hv e).unturn
      have h2 := (mnW_is hc hv (nPl_pos s)).2 _ h1
      have h3 := mnW_in hs hc hv (nPl_pos s)
      omega, h.walk⟩
theorem turn_at {s : Sy} {i : Nat} (h : i < (bnds s).length) : (turnE (egs s))[i]? = some (plc s ((bnds s)[i]?.getD default).to, plc s ((bnds s)[i]?.getD default).frm, ((bnds s)[i]?.getD default).most) := by
  unfold turnE
  rw [List.getElem?_map, egs_at h]
  rfl
theorem turn_short {s : Sy} (hs : Ok s) (hc : Closes (egs s)) {v : Nat} (hv : v < nPl s) : ∃ l, Lead (turnE (egs s)) 0 l v ∧ l.length ≤ 1000000 := by
  obtain ⟨r, hr, rfl⟩ := ref_at hv
  obtain ⟨x, hx⟩ := reach_all hr (nPl_pos s)
  obtain ⟨l, h1, -⟩ := hx.turn.lead
  obtain ⟨l', a1, a2, -⟩ := short_lead (turnE_ok (egs_ok hs)) (turnE_closes hc) (nPl_pos s) _ l _ (Nat.le_refl _) h1
  have := nPl_le hs
  exact ⟨l', a1, by omega⟩
theorem fnRow_ext {n : Nat} {f g : Nat → Int} (h : fnRow n f = fnRow n g) {i : Nat} (hi : i < n) : f i = g i := by
  have h1 := fnRow_get (f := f) hi
  rw [h, fnRow_get hi] at h1
  injection h1 with h2
  injection h2 with _ h3
  exact h3.symm
theorem RowIs.fn {w : World} {g : Nat} {e e' : TypeId} {cs cs' : List Value} (h : RowIs w g e cs) (k : RowIs w g e' cs') : cs = cs' := by
  unfold RowIs at h k
  rw [h] at k
  injection k with k
  injection k with k1 _ _
  exact List.toArray_inj k1
noncomputable def totW (a n : Nat) (w : World) : Nat := by classical exact if h : ∃ d, RowIs w a 3 (fnRow n d) then totN n 700000000 h.choose else 0
theorem totN_congr {n : Nat} {L : Int} {f g : Nat → Int} (h : ∀ i, i < n → f i = g i) : totN n L f = totN n L g := by
  unfold totN
  congr 1
  apply List.map_congr_left
  intro i hi
  rw [h i (List.mem_range.1 hi)]
theorem totW_eq {a n : Nat} {w : World} {d : Nat → Int} (h : RowIs w a 3 (fnRow n d)) : totW a n w = totN n 700000000 d := by
  have hx : ∃ d, RowIs w a 3 (fnRow n d) := ⟨d, h⟩
  unfold totW
  rw [dif_pos hx]
  exact totN_congr fun i hi => fnRow_ext (hx.choose_spec.fn h) hi
def bN : Value → Nat
  | .bool true => 1
  | _ => 0
/-- What backward answers. -/
def BckA (s : Sy) (w : World) (e : Ending) (w' : World) : Prop :=
  ∃ (a : Nat) (d : Nat → Int), e = .returned (.slice (some ⟨a, 0, none⟩) (nPl s) (nPl s)) ∧ New w w' ∧ RowIs w' a 3 (fnRow (nPl s) d) ∧ ∀ v, v < nPl s → d v = loF s v
set_option maxRecDepth 100000 in
set_option maxHeartbeats 16000000 in
theorem rf_backward (s : Sy) (hs : Ok s) (hc : Closes (egs s)) (A D : Option Addr) (c d : Nat) (w : World) (hM : SysM w A D s) :
    Calls Tryd.prog 78 #[.agg #[.slice A s.tracks.length c, .slice D s.ties.length d, .int .i64 s.window]] w fun e w' => BckA s w e w' := by
  have n1 := (New.refl w).alloc (.cells #[.slice A s.tracks.length c, .slice D s.ties.length d, .int .i64 s.window] 25)
  have r0 := RowIs.new w 25 [.slice A s.tracks.length c, .slice D s.ties.length d, .int .i64 s.window]
  have HR0 := Lib.hid r0
  have HN := Lib.hid n1
  have HM := Lib.hid hM
  have HS := Lib.hid hs
  have HC := Lib.hid hc
  have hnp := nPl_le hs
  have hn1 := nPl_pos s
  have hmk : ∀ w : World, (Instr.makeSlice 26 (.int .i64 (nPl s)) (.int .i64 (nPl s))).run Tryd.prog w = .ok (.slice (some ⟨w.heap.size, 0, none⟩) (nPl s) (nPl s)) (w.alloc (.cells (Array.replicate (nPl s) (.int .i64 0)) 3)) := fun w => make_row (bytes := 8) Tryd.underlying26 (by kernel_rfl) rfl (by decide) (nPl s) (by omega) w
  have c0 := r0.cell (i := 0) rfl
  have c1 := r0.cell (i := 1) rfl
  have c2 := r0.cell (i := 2) rfl
  clear n1 r0 hM hs hc
  go_enter Tryd.func78, Tryd.ntmps78
  go_wp2_with fail
  refine (rf_spots s HS.out A D c d _ (HM.out.keep HN.out)).mono ?_
  rintro e w1 ⟨FA, fc, rfl, hF, m1⟩
  have HX := Lib.hid (RowIs.new w1 102 [.slice FA s.tracks.length fc, .int .i64 (nPl s)])
  have na := (New.refl w1).alloc (.cells #[.slice FA s.tracks.length fc, .int .i64 (nPl s)] 102)
  have HN2 := Lib.hid (HN.out.trans (m1.trans na))
  have HF := Lib.hid (hF.keep na)
  have HA2 := Lib.hid (HR0.out.keep (m1.trans na))
  clear c0 c1 c2 hF m1 na
  have c0 := HA2.out.cell (i := 0) rfl
  have c1 := HA2.out.cell (i := 1) rfl
  have c2 := HA2.out.cell (i := 2) rfl
  have d0 := (HR0.out).lt
  go_wp2_with fail
  refine (rf_bounds s HS.out A D c d _ (HM.out.keep HN2.out)).mono ?_
  rintro e w2 ⟨V, rfl, ho, m2⟩
  obtain ⟨VA, vc, rfl⟩ := owns_form ho
  have HV := Lib.hid (owns_bns ho).2
  have HN3 := Lib.hid (HN2.out.trans m2)
  have HX3 := Lib.hid (HX.out.keep m2)
  have HF3 := Lib.hid (HF.out.keep m2)
  have hbl := bnds_len HS.out
  clear c0 c1 c2 d0 ho m2 HX HF HA2 HR0 HN HN2
  have x1 := HX3.out.cell (i := 1) rfl
  have xl := HX3.out.lt
  have HZ1 := Lib.hid (RowIs.zeros w2 3 (nPl s) (.int .i64 0))
  have HNZ := Lib.hid ((New.refl w2).alloc (.cells (Array.replicate (nPl s) (.int .i64 0)) 3))
  have HBN : Hid (∀ q, q < (bnds s).length → _) := Lib.hid fun q h => bnd_facts HS.out (i := q) h
  have HEG : Hid (∀ q, q < (bnds s).length → _) := Lib.hid fun q h => turn_at (s := s) (i := q) h
  have HEL : Hid ((turnE (egs s)).length = (bnds s).length) := Lib.hid (by rw [turnE_len, egs_len])
  have HEO := Lib.hid (turnE_ok (egs_ok HS.out))
  have HPL : Hid (∀ r, RefOk s r → plc s r < nPl s) := Lib.hid fun r h => plc_lt h
  have HOFF : Hid (∀ w', New w2 w' → ∀ r, RefOk s r → _) := Lib.hid fun w' h r hr => rf_of s HS.out FA fc (nPl s) r hr w' (HF3.out.keep h)
  have HRE : Hid (∀ v, v < nPl s → ∃ l, Lead (turnE (egs s)) 0 l v ∧ l.length ≤ 1000000) := Lib.hid fun v hv => turn_short HS.out HC.out hv
  have HFX : Hid (∀ T d, RW (turnE (egs s)) (nPl s) 0 T d → RW (turnE (egs s)) (nPl s) 0 30000 d) := Lib.hid fun T d h => RW.fix HS.out HC.out h
  have HFN : Hid (∀ d : Nat → Int, (∀ v, v < nPl s → MinW (turnE (egs s)) 0 v (d v)) → ∀ v, v < nPl s → d v = loF s v) := Lib.hid fun d h v hv => by
    have hm := h v hv
    have : MinW (egs s) v 0 (d v) := ⟨hm.1.unturn, fun x hx => hm.2 x hx.turn⟩
    exact (mnW_eq this).symm
  generalize hnn : nPl s = k at *
  have HNN := Lib.hid hnn
  clear hnn
  generalize w1.heap.size = X at *
  go_wp2_with fail
  clear xl x1 hmk
  generalize w2.alloc (.cells (Array.replicate k (.int .i64 0)) 3) = WZ at *
  generalize hma : w2.heap.size = a at *
  have HMA := Lib.hid hma
  generalize hmm : (bnds s).length = m at *
  have HMM := Lib.hid hmm
  have HN30 := Lib.hid HN3.out
  generalize turnE (egs s) = E at *
  clear hma hmm
  go_loopw [6] (fun i wr => ∃ j : Nat, 1 ≤ j ∧ j ≤ k ∧ i = .int .i64 j ∧ New w2 wr ∧ RowIs wr a 3 (fnRow k fun v => if v = 0 then 0 else if v < j then FAR else 0)) (fun i _ => k - (intOf i).toNat)
  case atStart =>
    refine ⟨1, Nat.le_refl _, hn1, rfl, HNZ.out, ?_⟩
    rw [fnRow_rep (z := 0) (fun i _ => ?_)]
    · exact HZ1.out
    · by_cases e : i = 0
      · rw [if_pos e]
      · rw [if_neg e, if_neg (by omega)]
  case round =>
    obtain ⟨j, hj1, hj, rfl, hn, ha⟩ := hrel
    have x1 := (HX3.out.keep hn).cell (i := 1) rfl
    by_cases hlt : j < k
    · have ik : (j : Int) < (k : Int) := by omega
      have va := ha.cell (fnRow_get (f := fun v => if v = 0 then 0 else if v < j then FAR else 0) hlt)
      have fa := ha.free j
      have HA1 := Lib.hid (ha.put j (.int .i64 1125899906842624))
      have HN1 := Lib.hid (hn.setCell (p := ⟨a, j, none⟩) (by show w2.heap.size ≤ a; rw [HMA.out]; exact Nat.le_refl _) (.int .i64 1125899906842624))
      clear ha hn
      generalize (if j = 0 then 0 else if j < j then FAR else 0) = z1 at *
      go_wp2_with fail
      go_roundw
      case rel =>
        refine ⟨j + 1, by omega, by omega, by go_num, HN1.out, ?_⟩
        have h := HA1.out
        rw [fnRow_set hlt] at h
        rw [fnRow_congr2 (g := upd (fun v => if v = 0 then 0 else if v < j then FAR else 0) j 1125899906842624)]
        · exact h
        · intro i hi
          unfold upd
          by_cases e1 : i = j
          · rw [if_neg (by omega), if_pos (by omega), if_pos e1]; rfl
          · rw [if_neg e1]
            by_cases e0 : i = 0
            · rw [if_pos e0]; exact (if_pos e0).symm
            · rw [if_neg e0]
              by_cases e2 : i < j
              · rw [if_pos (by omega)]; exact ((if_neg e0).trans (if_pos e2)).symm
              · rw [if_neg (by omega)]; exact ((if_neg e0).trans (if_neg e2)).symm
      case measure => simp [intOf]; omega
    · obtain rfl : j = k := by omega
      have HAA : Hid (RowIs wr a 3 (fnRow j fun v => if v = 0 then 0 else FAR)) := Lib.hid (by
        rw [fnRow_congr2 (g := fun v => if v = 0 then 0 else if v < j then FAR else 0)]
        · exact ha
        · intro i hi
          by_cases e0 : i = 0
          · rw [if_pos e0]; exact (if_pos e0).symm
          · rw [if_neg e0]; exact ((if_neg e0).trans (if_pos hi)).symm)
      have HN1 := Lib.hid hn
      have HRW := Lib.hid ((RW.start (E := E) hn1).more (Nat.zero_le 30000))
      clear ha hn hlt
      go_wp2_with fail
      clear x1
      go_loopw [7] (fun g wr => ∃ (b : Bool) (d : Nat → Int), g = .bool b ∧ New w2 wr ∧ RowIs wr a 3 (fnRow j d) ∧ RW E j 0 30000 d ∧ (b = false → CalmF E m d)) (fun g wr => 2 * totW a j wr + bN g)
      case atStart => exact ⟨true, _, rfl, HN1.out, HAA.out, HRW.out, fun h => by cases h⟩
      case round =>
        obtain ⟨b, dd, rfl, hn, ha, hw, hcalm⟩ := hrel
        clear HRW HN1 HAA
        cases b with
        | false =>
          have hall := (hcalm rfl).all (by rw [HEL.out]; exact Nat.le_refl _)
          obtain ⟨-, hc2⟩ := calm_min hw HEO.out HRE.out hall
          have HC2 := Lib.hid (HFN.out _ hc2)
          have HN2 := Lib.hid hn
          have HA2 := Lib.hid ha
          clear hall hcalm hc2 hn ha hw
          go_wp2_with fail
          go_ret
          exact ⟨a, dd, by rw [HNN.out]; rfl, HN30.out.trans HN2.out, by rw [HNN.out]; exact HA2.out, by rw [HNN.out]; exact HC2.out⟩
        | true =>
          have HTW := Lib.hid (totW_eq ha)
          have HN2 := Lib.hid hn
          have HA2 := Lib.hid ha
          have HW2 := Lib.hid hw
          clear hn ha hw hcalm
          go_wp2_with fail
          go_loopw [7, 8] (fun g i w' => ∃ (q : Nat) (b : Bool) (d2 : Nat → Int), q ≤ m ∧ g = .bool b ∧ i = .int .i64 q ∧ New w2 w' ∧ RowIs w' a 3 (fnRow j d2) ∧ RW E j 0 30000 d2 ∧ (b = false → CalmF E q d2) ∧ totN j 700000000 d2 ≤ totN j 700000000 dd ∧ (b = true → totN j 700000000 d2 < totN j 700000000 dd)) (fun _ i _ => m - (intOf i).toNat)
          case atStart => exact ⟨0, false, dd, Nat.zero_le _, rfl, rfl, HN2.out, HA2.out, HW2.out, fun _ => Rn.calm0, Nat.le_refl _, fun h => by cases h⟩
          case round =>
            obtain ⟨q, b, d2, hq, rfl, rfl, hn, ha, hw, hcm, ht1, ht2⟩ := hrel
            clear HN2 HA2 HW2
            have HN3' := Lib.hid hn
            have HA3 := Lib.hid ha
            have HW3 := Lib.hid hw
            have HC3 := Lib.hid hcm
            have HT1 := Lib.hid ht1
            have HT2 := Lib.hid ht2
            clear hn ha hw hcm ht1 ht2
            by_cases hqm : q < m
            · have iq : (q : Int) < (m : Int) := by omega
              obtain ⟨o1, o2, o3, o4⟩ := HBN.out q hqm
              have hp1 := HPL.out _ o1
              have hp2 := HPL.out _ o2
              have heg := HEG.out q hqm
              have HO1 : Hid (∀ w', New w2 w' → _) := Lib.hid fun w' h => HOFF.out w' h _ o1
              have HO2 : Hid (∀ w', New w2 w' → _) := Lib.hid fun w' h => HOFF.out w' h _ o2
              clear o1 o2
              obtain ⟨vb, vo, rfl, -, hc⟩ := (HV.out.keep HN3'.out).2 (by rw [HMM.out]; omega)
              have hcc := hc q (by rw [HMM.out]; exact hqm)
              clear hc
              generalize plc s ((bnds s)[q]?.getD default).frm = pf at *
              generalize plc s ((bnds s)[q]?.getD default).to = pt at *
              generalize (bnds s)[q]?.getD default = bd at *
              obtain ⟨⟨fl, fn⟩, ⟨tl, tn⟩, mo, kd, ix⟩ := bd
              have HCC := Lib.hid hcc
              obtain ⟨y0, y1, y2, y3, y4, -, -⟩ := hcc
              dsimp only at y0 y1 y2 y3 y4 o3 o4 heg HO1 HO2 HCC
              have HEQ := Lib.hid heg
              clear heg
              have HSD : Hid (∀ w', New wr w' → (fun w' => (w'.cell? ⟨X, 0, none⟩ = some (.slice FA s.tracks.length fc) ∧ w'.cell? ⟨X, 1, none⟩ = some (.int .i64 j)) ∧ (w'.cell? ⟨vb, vo + q * 7, none⟩ = some (.int .i64 fl) ∧ w'.cell? ⟨vb, vo + q * 7 + 1, none⟩ = some (.int .i64 fn))) w') := Lib.hid fun w' h => ⟨⟨(HX3.out.keep (HN3'.out.trans h)).cell rfl, (HX3.out.keep (HN3'.out.trans h)).cell rfl⟩, h.cellOf y0, h.cellOf y1⟩
              have HOF : Hid (∀ w', New wr w' → _) := Lib.hid fun w' h => HO1.out w' (HN3'.out.trans h)
              dsimp only at HSD HOF
              clear y0 y1 y2 y3 y4
              go_wp2_with fail
              refine region_plain (by kernel_rfl) (wpAny_of_held (S := (fun w' => (w'.cell? ⟨X, 0, none⟩ = some (.slice FA s.tracks.length fc) ∧ w'.cell? ⟨X, 1, none⟩ = some (.int .i64 j)) ∧ (w'.cell? ⟨vb, vo + q * 7, none⟩ = some (.int .i64 fl) ∧ w'.cell? ⟨vb, vo + q * 7 + 1, none⟩ = some (.int .i64 fn)))) _ _ _ _ ?_)
              change wpAnyH _ _ _ _ _ _ _ _ wr.drew
              have hS := HSD.out wr.drew (New.refl wr).drew
              refine wpAnyH_take (i := 0) (v := ?_) rfl (by kernel_rfl) (by kernel_rfl) (by kernel_rfl) (fun _ _ _ h => h) (Or.inl ⟨by rfl, fun w' hS' => ?_⟩) hS ?_
              rotate_left
              · obtain ⟨⟨s0, s1⟩, s2, s3⟩ := hS'
                go_simp
                try rfl
              try simp only [List.getElem_toArray, List.getElem_cons_zero, Act.put, List.setIfInBounds_toArray, List.set_cons_zero, List.set_cons_succ]
              refine wpAnyH_take (i := 1) (v := ?_) rfl (by kernel_rfl) (by kernel_rfl) (by kernel_rfl) (fun _ _ _ h => h) (Or.inl ⟨by rfl, fun w' hS' => ?_⟩) hS ?_
              rotate_left
              · obtain ⟨⟨s0, s1⟩, s2, s3⟩ := hS'
                go_simp
                try rfl
              try simp only [List.getElem_toArray, List.getElem_cons_zero, List.getElem_cons_succ, Act.put, List.setIfInBounds_toArray, List.set_cons_zero, List.set_cons_succ]
              refine wpAnyH_take (i := 2) (v := ?_) rfl (by kernel_rfl) (by kernel_rfl) (by kernel_rfl) (fun _ _ _ h => h) (Or.inl ⟨by rfl, fun w' hS' => ?_⟩) hS ?_
              rotate_left
              · obtain ⟨⟨s0, s1⟩, s2, s3⟩ := hS'
                go_simp
                try rfl
              try simp only [List.getElem_toArray, List.getElem_cons_zero, List.getElem_cons_succ, Act.put, List.setIfInBounds_toArray, List.set_cons_zero, List.set_cons_succ]
              refine wpAnyH_take (i := 3) (v := ?_) rfl (by kernel_rfl) (by kernel_rfl) (by kernel_rfl) (fun _ _ _ h => h) (Or.inl ⟨by rfl, fun w' hS' => ?_⟩) hS ?_
              rotate_left
              · obtain ⟨⟨s0, s1⟩, s2, s3⟩ := hS'
                go_simp
                try rfl
              try simp only [List.getElem_toArray, List.getElem_cons_zero, List.getElem_cons_succ, Act.put, List.setIfInBounds_toArray, List.set_cons_zero, List.set_cons_succ]
              refine wpAnyH_take (i := 4) (v := ?_) rfl (by kernel_rfl) (by kernel_rfl) (by kernel_rfl) (fun _ _ _ h => h) (Or.inl ⟨by rfl, fun w' hS' => ?_⟩) hS ?_
              rotate_left
              · obtain ⟨⟨s0, s1⟩, s2, s3⟩ := hS'
                go_simp
                try rfl
              try simp only [List.getElem_toArray, List.getElem_cons_zero, List.getElem_cons_succ, Act.put, List.setIfInBounds_toArray, List.set_cons_zero, List.set_cons_succ]
              refine wpAnyH_take (i := 5) (v := ?_) rfl (by kernel_rfl) (by kernel_rfl) (by kernel_rfl) (fun _ _ _ h => h) (Or.inl ⟨by rfl, fun w' hS' => ?_⟩) hS ?_
              rotate_left
              · obtain ⟨⟨s0, s1⟩, s2, s3⟩ := hS'
                go_simp
                try rfl
              try simp only [List.getElem_toArray, List.getElem_cons_zero, List.getElem_cons_succ, Act.put, List.setIfInBounds_toArray, List.set_cons_zero, List.set_cons_succ]
              clear hS
              refine wpAnyH_ready (rs := [6]) (by kernel_rfl) (by simp) ?_
              refine AllReadyH.cons rfl (fun K hK => ?_) AllReadyH.nil
              go_simp
              refine (HOF.out _ ((New.refl wr).drew)).mono ?_
              rintro e w7 ⟨rfl, mw7⟩
              have nw7 := ((New.refl wr).drew).trans mw7
              refine hK.out _ _ (HSD.out w7 nw7) (fun hS => ?_)
              clear hK K
              try simp only [List.getElem_toArray, List.getElem_cons_zero, List.getElem_cons_succ, Act.put, List.setIfInBounds_toArray, List.set_cons_zero, List.set_cons_succ]
              refine wpAnyH_take (i := 7) (v := ?_) rfl (by kernel_rfl) (by kernel_rfl) (by kernel_rfl) (fun _ _ _ h => h) (Or.inl ⟨by rfl, fun w' hS' => ?_⟩) hS ?_
              rotate_left
              · obtain ⟨⟨s0, s1⟩, s2, s3⟩ := hS'
                go_simp
                try rfl
              try simp only [List.getElem_toArray, List.getElem_cons_zero, List.getElem_cons_succ, Act.put, List.setIfInBounds_toArray, List.set_cons_zero, List.set_cons_succ]
              clear hS
              refine wpAnyH_done (by kernel_rfl) ?_ _
              unfold NormQ
              dsimp only [Exit.then]
              clear HSD HOF
              have HN7 := Lib.hid nw7
              have HC7 := Lib.hid (HCC.out.keep nw7)
              have HSD : Hid (∀ w', New w7 w' → (fun w' => (w'.cell? ⟨X, 0, none⟩ = some (.slice FA s.tracks.length fc) ∧ w'.cell? ⟨X, 1, none⟩ = some (.int .i64 j)) ∧ (w'.cell? ⟨vb, vo + q * 7 + 2, none⟩ = some (.int .i64 tl) ∧ w'.cell? ⟨vb, vo + q * 7 + 3, none⟩ = some (.int .i64 tn))) w') := Lib.hid fun w' h => ⟨⟨(HX3.out.keep ((HN3'.out.trans HN7.out).trans h)).cell rfl, (HX3.out.keep ((HN3'.out.trans HN7.out).trans h)).cell rfl⟩, h.cellOf HC7.out.2.2.1, h.cellOf HC7.out.2.2.2.1⟩
              have HOT : Hid (∀ w', New w7 w' → _) := Lib.hid fun w' h => HO2.out w' ((HN3'.out.trans HN7.out).trans h)
              dsimp only at HSD HOT
              clear mw7 nw7
              go_wp2_with fail
              refine region_plain (by kernel_rfl) (wpAny_of_held (S := (fun w' => (w'.cell? ⟨X, 0, none⟩ = some (.slice FA s.tracks.length fc) ∧ w'.cell? ⟨X, 1, none⟩ = some (.int .i64 j)) ∧ (w'.cell? ⟨vb, vo + q * 7 + 2, none⟩ = some (.int .i64 tl) ∧ w'.cell? ⟨vb, vo + q * 7 + 3, none⟩ = some (.int .i64 tn)))) _ _ _ _ ?_)
              change wpAnyH _ _ _ _ _ _ _ _ w7.drew
              have hS := HSD.out w7.drew (New.refl w7).drew
              refine wpAnyH_take (i := 0) (v := ?_) rfl (by kernel_rfl) (by kernel_rfl) (by kernel_rfl) (fun _ _ _ h => h) (Or.inl ⟨by rfl, fun w' hS' => ?_⟩) hS ?_
              rotate_left
              · obtain ⟨⟨s0, s1⟩, s2, s3⟩ := hS'
                go_simp
                try rfl
              try simp only [List.getElem_toArray, List.getElem_cons_zero, Act.put, List.setIfInBounds_toArray, List.set_cons_zero, List.set_cons_succ]
              refine wpAnyH_take (i := 1) (v := ?_) rfl (by kernel_rfl) (by kernel_rfl) (by kernel_rfl) (fun _ _ _ h => h) (Or.inl ⟨by rfl, fun w' hS' => ?_⟩) hS ?_
              rotate_left
              · obtain ⟨⟨s0, s1⟩, s2, s3⟩ := hS'
                go_simp
                try rfl
              try simp only [List.getElem_toArray, List.getElem_cons_zero, List.getElem_cons_succ, Act.put, List.setIfInBounds_toArray, List.set_cons_zero, List.set_cons_succ]
              refine wpAnyH_take (i := 2) (v := ?_) rfl (by kernel_rfl) (by kernel_rfl) (by kernel_rfl) (fun _ _ _ h => h) (Or.inl ⟨by rfl, fun w' hS' => ?_⟩) hS ?_
              rotate_left
              · obtain ⟨⟨s0, s1⟩, s2, s3⟩ := hS'
                go_simp
                try rfl
              try simp only [List.getElem_toArray, List.getElem_cons_zero, List.getElem_cons_succ, Act.put, List.setIfInBounds_toArray, List.set_cons_zero, List.set_cons_succ]
              refine wpAnyH_take (i := 3) (v := ?_) rfl (by kernel_rfl) (by kernel_rfl) (by kernel_rfl) (fun _ _ _ h => h) (Or.inl ⟨by rfl, fun w' hS' => ?_⟩) hS ?_
              rotate_left
              · obtain ⟨⟨s0, s1⟩, s2, s3⟩ := hS'
                go_simp
                try rfl
              try simp only [List.getElem_toArray, List.getElem_cons_zero, List.getElem_cons_succ, Act.put, List.setIfInBounds_toArray, List.set_cons_zero, List.set_cons_succ]
              refine wpAnyH_take (i := 4) (v := ?_) rfl (by kernel_rfl) (by kernel_rfl) (by kernel_rfl) (fun _ _ _ h => h) (Or.inl ⟨by rfl, fun w' hS' => ?_⟩) hS ?_
              rotate_left
              · obtain ⟨⟨s0, s1⟩, s2, s3⟩ := hS'
                go_simp
                try rfl
              try simp only [List.getElem_toArray, List.getElem_cons_zero, List.getElem_cons_succ, Act.put, List.setIfInBounds_toArray, List.set_cons_zero, List.set_cons_succ]
              refine wpAnyH_take (i := 5) (v := ?_) rfl (by kernel_rfl) (by kernel_rfl) (by kernel_rfl) (fun _ _ _ h => h) (Or.inl ⟨by rfl, fun w' hS' => ?_⟩) hS ?_
              rotate_left
              · obtain ⟨⟨s0, s1⟩, s2, s3⟩ := hS'
                go_simp
                try rfl
              try simp only [List.getElem_toArray, List.getElem_cons_zero, List.getElem_cons_succ, Act.put, List.setIfInBounds_toArray, List.set_cons_zero, List.set_cons_succ]
              clear hS
              refine wpAnyH_ready (rs := [6]) (by kernel_rfl) (by simp) ?_
              refine AllReadyH.cons rfl (fun K hK => ?_) AllReadyH.nil
              go_simp
              refine (HOT.out _ ((New.refl w7).drew)).mono ?_
              rintro e w8 ⟨rfl, mw8⟩
              have nw8 := ((New.refl w7).drew).trans mw8
              refine hK.out _ _ (HSD.out w8 nw8) (fun hS => ?_)
              clear hK K
              try simp only [List.getElem_toArray, List.getElem_cons_zero, List.getElem_cons_succ, Act.put, List.setIfInBounds_toArray, List.set_cons_zero, List.set_cons_succ]
              refine wpAnyH_take (i := 7) (v := ?_) rfl (by kernel_rfl) (by kernel_rfl) (by kernel_rfl) (fun _ _ _ h => h) (Or.inl ⟨by rfl, fun w' hS' => ?_⟩) hS ?_
              rotate_left
              · obtain ⟨⟨s0, s1⟩, s2, s3⟩ := hS'
                go_simp
                try rfl
              try simp only [List.getElem_toArray, List.getElem_cons_zero, List.getElem_cons_succ, Act.put, List.setIfInBounds_toArray, List.set_cons_zero, List.set_cons_succ]
              clear hS
              refine wpAnyH_done (by kernel_rfl) ?_ _
              unfold NormQ
              dsimp only [Exit.then]
              clear HSD HOT HO1 HO2
              have HN8 := Lib.hid (HN3'.out.trans (HN7.out.trans nw8))
              have HA8 := Lib.hid (HA3.out.keep (HN7.out.trans nw8))
              have y4 := (HC7.out.keep nw8).2.2.2.2.1
              dsimp only at y4
              clear mw8 nw8 HC7 HCC HN7 HN3' HA3
              have va := HA8.out.cell (fnRow_get (f := d2) hp1)
              have vt := HA8.out.cell (fnRow_get (f := d2) hp2)
              have l1 := HW3.out.le pt hp2
              have l2 := HW3.out.lo pt hp2
              have ip1 : (pf : Int) < (j : Int) := by omega
              have ip2 : (pt : Int) < (j : Int) := by omega
              have hw : IntKind.i64.wrap (d2 pt + mo) = d2 pt + mo := IntWalk.i64_in _ (by unfold FAR at l1; omega)
              have HYE : Hid (d2 pt < FAR → d2 pt + mo < d2 pf → RW E j 0 30000 (upd d2 pf (d2 pt + mo)) ∧ totN j 700000000 (upd d2 pf (d2 pt + mo)) < totN j 700000000 dd) := Lib.hid fun h1 h2 => by
                have hm := List.mem_of_getElem? HEQ.out
                have h3 := HFX.out _ _ (HW3.out.lower HEO.out hm h1 h2)
                dsimp only at h3
                have h4 := h3.lo pf hp1
                rw [upd_same] at h4
                have h5 := totN_upd j 700000000 d2 pf (d2 pt + mo) hp1 h2 (by omega)
                have h6 := HT1.out
                exact ⟨h3, by omega⟩
              have HNO : Hid ((d2 pt < FAR → d2 pf ≤ d2 pt + mo) → (b = false → CalmF E (q + 1) d2)) := Lib.hid fun h hb => (HC3.out hb).step HEQ.out h
              clear l1 l2 HC3
              generalize hx : d2 pt = x at *
              generalize hy : d2 pf = y at *
              clear hx hy
              by_cases hf : x < FAR
              · have hf2 : decide (x < 1125899906842624) = true := by simpa [FAR] using hf
                by_cases hl : x + mo < y
                · have hl2 : decide (x + mo < y) = true := by simpa using hl
                  have HYY := Lib.hid (HYE.out hf hl)
                  clear HYE HNO hf hl
                  go_wp2_with fail
                  go_quiet (fail)
                  dsimp only [Exit.then]
                  have HNQ := Lib.hid ((New.refl w8).drewN nq)
                  have HA9 := Lib.hid (HA8.out.keep HNQ.out)
                  have HN9 := Lib.hid (HN8.out.trans HNQ.out)
                  have z4 := HNQ.out.cellOf y4
                  have za := HNQ.out.cellOf va
                  have zt := HNQ.out.cellOf vt
                  clear y4 va vt HA8 HN8 HNQ
                  generalize w8.drewN nq = w9 at *
                  have ft := HA9.out.free pf
                  have HA10 := Lib.hid (HA9.out.put pf (.int .i64 (x + mo)))
                  have HN10 := Lib.hid ((HN9.out.setCell (p := ⟨a, pf, none⟩) (by show w2.heap.size ≤ a; rw [HMA.out]; exact Nat.le_refl _) (.int .i64 (x + mo))).drew)
                  clear HA9 HN9
                  go_wp2_with fail
                  try simp only [List.append_eq, List.cons_append, List.nil_append]
                  refine region_tailq 13 (by kernel_rfl) (by kernel_rfl) ?_
                  simp only [List.take_succ_cons, List.take_zero]
                  repeat (go_big_quiet_step (fail))
                  refine wpQuiet_nil ?_
                  simp only [List.drop_succ_cons, List.drop_zero]
                  go_wp2_with fail
                  clear z4 za zt ft
                  go_roundw
                  case rel =>
                    refine ⟨q + 1, true, upd d2 pf (x + mo), by omega, rfl, by go_num, HN10.out, ?_, HYY.out.1, fun h => (by cases h), Nat.le_of_lt HYY.out.2, fun _ => HYY.out.2⟩
                    have h := HA10.out
                    rw [fnRow_set hp1] at h
                    exact h
                  case measure => simp [intOf]; omega
                · have hl2 : decide (x + mo < y) = false := by simpa using hl
                  have HYY := Lib.hid (HNO.out fun _ => by omega)
                  clear HYE HNO hf hl
                  go_wp2_with fail
                  go_quiet (fail)
                  dsimp only [Exit.then]
                  have HNQ := Lib.hid ((New.refl w8).drewN nq)
                  clear y4 va vt
                  go_wp2_with fail
                  go_roundw
                  case rel => exact ⟨q + 1, b, d2, by omega, rfl, by go_num, HN8.out.trans HNQ.out, HA8.out.keep HNQ.out, HW3.out, HYY.out, HT1.out, HT2.out⟩
                  case measure => simp [intOf]; omega
              · have hf2 : decide (x < 1125899906842624) = false := by simpa [FAR] using hf
                have HYY := Lib.hid (HNO.out fun h => absurd h hf)
                clear HYE HNO hf
                go_wp2_with fail
                go_quiet (fail)
                dsimp only [Exit.then]
                have HNQ := Lib.hid ((New.refl w8).drewN nq)
                clear y4 va vt
                go_wp2_with fail
                go_roundw
                case rel => exact ⟨q + 1, b, d2, by omega, rfl, by go_num, HN8.out.trans HNQ.out, HA8.out.keep HNQ.out, HW3.out, HYY.out, HT1.out, HT2.out⟩
                case measure => simp [intOf]; omega
            · obtain rfl : q = m := by omega
              go_wp2_with fail
              go_roundw
              case rel => exact ⟨b, d2, rfl, HN3'.out, HA3.out, HW3.out, HC3.out⟩
              case measure =>
                rw [HTW.out, totW_eq HA3.out]
                have h1 := HT1.out
                have h2 := HT2.out
                cases b
                · simp [bN]; omega
                · have := h2 rfl
                  simp [bN]; omega
end Go.Proofs.YtodmbcoobjcooaaDoor
