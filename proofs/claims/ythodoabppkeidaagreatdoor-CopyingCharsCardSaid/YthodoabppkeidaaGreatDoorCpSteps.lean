/-
  after, end, steps of the program: the places and the steps of alignments. Condition: the hearing and the tables lie in memory; the place lies within the texts.
-/
import Derived.Test.YthodoabppkeidaaGreatDoorCpTab
import Derived.Test.YthodoabppkeidaaGreatDoorCpAlm
import Derived.Deep.AppendLies
namespace Go.Proofs.YthodoabppkeidaaGreatDoor
open Go Go.RowKit
/-- A place as a value. -/
def plV (p : Nat × Nat) : Value := .agg #[.int .i64 p.1, .int .i64 p.2]
def stC (t : Stp) : List Value := [.int .i64 t.1, .int .i64 t.2.1, .int .i64 t.2.2]
/-- A step as a value. -/
def stV (t : Stp) : Value := .agg #[.int .i64 t.1, .int .i64 t.2.1, .int .i64 t.2.2]
/-- Steps as the cells of a slice. -/
def stsC (l : List Stp) : List Value := l.flatMap stC
theorem stsC_append (a b : List Stp) : stsC (a ++ b) = stsC a ++ stsC b := by simp [stsC]
theorem stsC_len (l : List Stp) : (stsC l).length = l.length * 3 := by
  induction l with
  | nil => rfl
  | cons t l ih => rw [stsC, List.flatMap_cons, List.length_append, ← stsC, ih]; simp [stC]; omega
/-- A slice of the call's own that holds steps. -/
def StsAt (w : World) (b : Nat) (v : Value) (l : List Stp) : Prop := w.ownsRow b 65 3 v l.length (stsC l)
set_option maxHeartbeats 400000 in
theorem cp_after (p : Nat × Nat) (t : Stp) (w : World) (h1 : p.1 ≤ 1000000) (h2 : p.2 ≤ 1000000) :
    Calls Tryz.prog 70 #[plV p, stV t] w fun e w' => e = .returned (plV (aftL p t)) ∧ New w w' := by
  obtain ⟨i, k⟩ := p
  obtain ⟨S, H, C⟩ := t
  simp only at h1 h2
  unfold plV stV aftL
  simp only
  by_cases hS : S = -1 <;> by_cases hH : H = -1 <;> simp only [hS, hH, if_true, if_false]
  all_goals
    have g1 : (S != -1) = !decide (S = -1) := by rw [bne, Bool.beq_eq_decide_eq] 
    go_enter Tryz.func70, Tryz.ntmps70
    go_wp2_with fail
    refine bodyPost_ret (v := _) (by simp [results, Tryz.results70, go_sem]) rfl ⟨rfl, ?_⟩
    exact (((New.refl w).alloc _).alloc _).alloc _
set_option maxHeartbeats 400000 in
theorem cp_end (m : Md) (s h : List Nat) (v : Value) (w : World) (hx : HearAt w m s h v) :
    Calls Tryz.prog 65 #[v] w fun e w' => e = .returned (plV (s.length, h.length)) ∧ New w w' := by
  obtain ⟨vs, vh, rfl, ⟨A1, c1, rfl, -, -, -⟩, ⟨A2, c2, rfl, -, -, -⟩, ks, kh, ls, lh⟩ := hx
  rw [keysV_len, keysV_len]
  clear ks kh
  generalize medT m = tm
  unfold plV
  go_enter Tryz.func65, Tryz.ntmps65
  go_wp2_with fail
  refine bodyPost_ret (v := .agg #[.int .i64 s.length, .int .i64 h.length]) (by simp [results, Tryz.results65, go_sem]) rfl ⟨rfl, ?_⟩
  exact ((New.refl w).alloc _).alloc _
theorem info_step : (Tryz.prog.info? 65).map (fun i => (i.zero, i.size, i.bytes)) = some (some (.agg #[.int .i64 0, .int .i64 0, .int .i64 0]), 3, 24) := by kernel_rfl
theorem under_steps : Tryz.prog.underlying 24 = some (.slice 65) := by kernel_rfl
/-- One step more. -/
theorem StsAt.more {w w' : World} {b g cap : Nat} {v : Value} {l : List Stp} {t : Stp} (_ : StsAt w b v l) (ho : w'.ownsRow b 65 3 (.slice (some ⟨g, 0, none⟩) (l.length + 1) cap) (l.length + 1) (stsC l ++ stC t)) : StsAt w' b (.slice (some ⟨g, 0, none⟩) (l ++ [t]).length cap) (l ++ [t]) := by
  unfold StsAt
  rw [stsC_append, List.length_append, List.length_singleton, show stsC [t] = stC t by simp [stsC]]
  exact ho
set_option maxRecDepth 100000 in
set_option maxHeartbeats 2000000 in
theorem cp_steps (F : List Bytes) (m : Md) (s h : List Nat) (v : Value) (p : Nat × Nat) (w : World) (hT : TabAt w F) (hx : HearAt w m s h v) (hp : InL s h p) :
    Calls Tryz.prog 69 #[v, plV p] w fun e w' => ∃ v', e = .returned v' ∧ (StsAt w' w.heap.size v' (stpsL (mdC F m) s h p) ∧ New w w') := by
  obtain ⟨vs, vh, rfl, hs, hh, ks, kh, ls, lh⟩ := hx
  have HT := Lib.hid hT
  have HS := Lib.hid hs
  have HH := Lib.hid hh
  obtain ⟨i, k⟩ := p
  obtain ⟨hi, hk⟩ := hp
  simp only at hi hk
  obtain ⟨A1, c1, rfl, hs1, hs2, hs3⟩ := hs
  obtain ⟨A2, c2, rfl, hh1, hh2, hh3⟩ := hh
  rw [keysV_len] at hs1 hs3 HS ⊢
  rw [keysV_len] at hh1 hh3 HH ⊢
  clear hT
  unfold plV
  obtain ⟨i0, hi0, hz0, hz1, hz2⟩ := info_parts info_step
  have HI := Lib.hid (And.intro hi0 (And.intro hz0 (And.intro hz1 hz2)))
  clear hi0 hz0 hz1 hz2
  have HM := Lib.hid (cp_miss m)
  have HE := Lib.hid (cp_extra m)
  have hm1 := mth_miss m
  have hm2 := mth_extra m
  have he1 := ent_miss m
  have he2 := ent_extra m
  have ms3 := md_small m
  have hms : (mdC F m).ms = mdMs m := rfl
  have hex : (mdC F m).ex = mdEx m := rfl
  have HSW := Lib.hid (cp_swapCostI F m)
  generalize hTm : medT m = tm at *
  generalize missF m = fm at *
  generalize extraF m = fe at *
  generalize hMs : mdMs m = ms at *
  generalize hEx : mdEx m = ex at *
  generalize hW : (w.alloc (.cells #[.iface tm (.agg #[]), .slice A1 s.length c1, .slice A2 h.length c2] 89)).alloc (.cells #[.int .i64 i, .int .i64 k] 95) = W
  have HWW := Lib.hid hW
  have hsz : W.heap.size = w.heap.size + 1 + 1 := by rw [← hW]; simp
  have HNW : Hid (New w W) := Lib.hid (by rw [← hW]; exact ((New.refl w).alloc _).alloc _)
  have HR1 : Hid (RowIs W w.heap.size 89 [.iface tm (.agg #[]), .slice A1 s.length c1, .slice A2 h.length c2]) := Lib.hid (by rw [← hW]; exact (RowIs.new w _ _).keep ((New.refl _).alloc _))
  have HR2 : Hid (RowIs W (w.heap.size + 1) 95 [.int .i64 i, .int .i64 k]) := Lib.hid (by
    have h1 := RowIs.new (w.alloc (.cells #[.iface tm (.agg #[]), .slice A1 s.length c1, .slice A2 h.length c2] 89)) 95 [.int .i64 i, .int .i64 k]
    rw [← hW]
    simpa using h1)
  have HD : Hid (∀ w', New W w' → New W w' ∧ w'.cell? ⟨w.heap.size, 0, none⟩ = some (.iface tm (.agg #[])) ∧ w'.cell? ⟨w.heap.size, 1, none⟩ = some (.slice A1 s.length c1) ∧ w'.cell? ⟨w.heap.size, 2, none⟩ = some (.slice A2 h.length c2) ∧
      w'.cell? ⟨w.heap.size + 1, 0, none⟩ = some (.int .i64 i) ∧ w'.cell? ⟨w.heap.size + 1, 1, none⟩ = some (.int .i64 k)) :=
    Lib.hid (fun w' hn => ⟨hn, (HR1.out.keep hn).cell rfl, (HR1.out.keep hn).cell rfl, (HR1.out.keep hn).cell rfl, (HR2.out.keep hn).cell rfl, (HR2.out.keep hn).cell rfl⟩)
  clear hW
  by_cases h1 : i < s.length <;> by_cases h2 : k < h.length
  · obtain ⟨b1, o1, rfl, hb1, hc1⟩ := hs3 (by omega)
    obtain ⟨b2, o2, rfl, hb2, hc2⟩ := hh3 (by omega)
    have x37 : s[i] < 37 := ks _ (List.getElem_mem _)
    have y37 : h[k] < 37 := kh _ (List.getElem_mem _)
    have hx0 : (keysV s)[i]? = some (kV s[i]) := by rw [keysV, List.getElem?_map, List.getElem?_eq_getElem h1]; rfl
    have hy0 : (keysV h)[k]? = some (kV h[k]) := by rw [keysV, List.getElem?_map, List.getElem?_eq_getElem h2]; rfl
    have e1 := hc1 _ _ hx0
    have e2 := hc2 _ _ hy0
    have hst1 : stpsL (mdC F m) s h (i, k) = [((i : Int), (k : Int), (mdC F m).sw s[i] h[k]), ((i : Int), -1, ms), (-1, (k : Int), ex)] := by
      simp [stpsL, h1, h2, hms, hex]
    have HST := Lib.hid hst1
    clear hst1
    generalize s[i] = x at *
    generalize h[k] = y at *
    have HX : Hid (∀ w', New W w' → New W w' ∧ w'.cell? ⟨w.heap.size, 0, none⟩ = some (.iface tm (.agg #[])) ∧ w'.cell? ⟨w.heap.size, 1, none⟩ = some (.slice (some ⟨b1, o1, none⟩) s.length c1) ∧ w'.cell? ⟨w.heap.size, 2, none⟩ = some (.slice (some ⟨b2, o2, none⟩) h.length c2) ∧ w'.cell? ⟨w.heap.size + 1, 0, none⟩ = some (.int .i64 i) ∧ w'.cell? ⟨w.heap.size + 1, 1, none⟩ = some (.int .i64 k) ∧ w'.cell? ⟨b1, o1 + i, none⟩ = some (.int .i64 (x : Nat)) ∧ w'.cell? ⟨b2, o2 + k, none⟩ = some (.int .i64 (y : Nat))) := Lib.hid (fun w' hn => by
      obtain ⟨a0, a1, a2, a3, a4, a5⟩ := HD.out w' hn
      have hw := HNW.out.trans hn
      exact ⟨a0, a1, a2, a3, a4, a5, (hw.cell (p := ⟨b1, o1 + i, none⟩) hb1).trans e1, (hw.cell (p := ⟨b2, o2 + k, none⟩) hb2).trans e2⟩)
    have HTT : Hid (∀ w', New W w' → TabAt w' F) := Lib.hid (fun w' hn => HT.out.keep (HNW.out.trans hn))
    have i1 : (i : Int) < (s.length : Int) := by omega
    have i2 : (k : Int) < (h.length : Int) := by omega
    clear hs3 hh3 ks kh hc1 hc2 hx0 hy0 e1 e2 hb1 hb2
    go_enter Tryz.func69, Tryz.ntmps69
    go_wp2_with fail
    go_quiet (fail)
    go_wp2_with fail
    rw [HWW.out]
    have hn1 := (New.refl W).drewN nq
    obtain ⟨-, q1, q2, q3, q4, q5, q6, q7⟩ := HX.out _ hn1
    generalize W.drewN nq = W1 at *
    have HN1 := Lib.hid hn1
    have own1 : W1.ownsRow W.heap.size 65 3 (.slice none 0 0) 0 [] := World.ownsRow_nil _ _ _ _
    clear hn1
    go_region_held3 (fun w' => New W w' ∧ w'.cell? ⟨w.heap.size, 0, none⟩ = some (.iface tm (.agg #[])) ∧ w'.cell? ⟨w.heap.size, 1, none⟩ = some (.slice (some ⟨b1, o1, none⟩) s.length c1) ∧ w'.cell? ⟨w.heap.size, 2, none⟩ = some (.slice (some ⟨b2, o2, none⟩) h.length c2) ∧ w'.cell? ⟨w.heap.size + 1, 0, none⟩ = some (.int .i64 i) ∧ w'.cell? ⟨w.heap.size + 1, 1, none⟩ = some (.int .i64 k) ∧ w'.cell? ⟨b1, o1 + i, none⟩ = some (.int .i64 (x : Nat)) ∧ w'.cell? ⟨b2, o2 + k, none⟩ = some (.int .i64 (y : Nat)))
      (first | exact HX.out _ HN1.out | exact HX.out _ HN1.out.drew | exact HX.out _ (HN1.out.trans hb) | exact HX.out _ (HN1.out.drew.trans hb) | exact HX.out _ ((HN1.out.trans hb).alloc _) | exact HX.out _ ((HN1.out.drew.trans hb).alloc _) | exact HX.out _ hn2)
      (first | (go_at_call 56; refine (HSW.out x y x37 y37 _ (HTT.out _ (by first | exact HN1.out | exact HN1.out.drew))).mono ?_; rintro e w' ⟨rfl, hb⟩) | (refine step_append_lies _ (by rfl) _ _ _ (by rfl) W.heap.size 65 i0 _ 3 24 (by exact under_steps) HI.out.1 HI.out.2.1 HI.out.2.2.1 HI.out.2.2.2 (by rfl) (by decide) _ _ _ (by rfl) (owns_keep own1 (New.alloc (by first | exact hb | exact (New.refl W1).drew.trans hb) _)) _ 1 1 (stC ((i : Int), (k : Int), (mdC F m).sw x y)) (by rfl) (by rfl) (World.news_of_block (heap_alloc_new _ _)) (by simp [stC, Value.oneCell']) (by decide) (by decide) (by decide) (by have h1 := HN1.out.size; have h2 := New.size hb; simp at h2 ⊢; omega) _ rfl ?_; intro g2 cap2 W2 ho2 hg _ _; have hn2 : New W W2 := Below.trans (New.alloc (by first | exact HN1.out.trans hb | exact HN1.out.drew.trans hb) _) (grown_below (owns_keep own1 (New.alloc (by first | exact hb | exact (New.refl W1).drew.trans hb) _)) hg (by have h1 := HN1.out.size; have h2 := New.size hb; simp at h2 ⊢; omega))))
    have own2 : W2.ownsRow W.heap.size 65 3 (.slice (some ⟨g2, 0, none⟩) 1 cap2) 1 (stsC [((i : Int), (k : Int), (mdC F m).sw x y)]) := ho2
    have HN2 := Lib.hid hn2
    clear hb hg ho2
    obtain ⟨-, q1, q2, q3, q4, q5⟩ := HD.out _ hn2
    clear hn2
    go_wp2_with fail
    go_region_held3 (fun w' => New W w' ∧ w'.cell? ⟨w.heap.size, 0, none⟩ = some (.iface tm (.agg #[])) ∧ w'.cell? ⟨w.heap.size, 1, none⟩ = some (.slice (some ⟨b1, o1, none⟩) s.length c1) ∧ w'.cell? ⟨w.heap.size, 2, none⟩ = some (.slice (some ⟨b2, o2, none⟩) h.length c2) ∧ w'.cell? ⟨w.heap.size + 1, 0, none⟩ = some (.int .i64 i) ∧ w'.cell? ⟨w.heap.size + 1, 1, none⟩ = some (.int .i64 k))
      (first | exact HD.out _ HN2.out | exact HD.out _ HN2.out.drew | exact HD.out _ (HN2.out.trans hb) | exact HD.out _ (HN2.out.drew.trans hb) | exact HD.out _ ((HN2.out.trans hb).alloc _) | exact HD.out _ ((HN2.out.drew.trans hb).alloc _) | exact HD.out _ hn3)
      (first | (go_at_fn fm; refine (HM.out _).mono ?_; rintro e w' ⟨rfl, hb⟩) | (refine step_append_lies _ (by rfl) _ _ _ (by rfl) W.heap.size 65 i0 _ 3 24 (by exact under_steps) HI.out.1 HI.out.2.1 HI.out.2.2.1 HI.out.2.2.2 (by rfl) (by decide) _ _ _ (by rfl) (owns_keep own2 (New.alloc (by first | exact hb | exact (New.refl W2).drew.trans hb) _)) _ 1 1 (stC ((i : Int), -1, ms)) (by rfl) (by rfl) (World.news_of_block (heap_alloc_new _ _)) (by simp [stC, Value.oneCell']) (by decide) (by decide) (by decide) (by have h1 := HN2.out.size; have h2 := New.size hb; simp at h2 ⊢; omega) _ rfl ?_; intro g3 cap3 W3 ho3 hg _ _; have hn3 : New W W3 := Below.trans (New.alloc (by first | exact HN2.out.trans hb | exact HN2.out.drew.trans hb) _) (grown_below (owns_keep own2 (New.alloc (by first | exact hb | exact (New.refl W2).drew.trans hb) _)) hg (by have h1 := HN2.out.size; have h2 := New.size hb; simp at h2 ⊢; omega))))
    have own3 : W3.ownsRow W.heap.size 65 3 (.slice (some ⟨g3, 0, none⟩) 2 cap3) 2 (stsC [((i : Int), (k : Int), (mdC F m).sw x y), ((i : Int), -1, ms)]) := ho3
    have HN3 := Lib.hid hn3
    clear hb hg ho3
    obtain ⟨-, q1, q2, q3, q4, q5⟩ := HD.out _ hn3
    clear hn3
    go_wp2_with fail
    go_region_held3 (fun w' => New W w' ∧ w'.cell? ⟨w.heap.size, 0, none⟩ = some (.iface tm (.agg #[])) ∧ w'.cell? ⟨w.heap.size, 1, none⟩ = some (.slice (some ⟨b1, o1, none⟩) s.length c1) ∧ w'.cell? ⟨w.heap.size, 2, none⟩ = some (.slice (some ⟨b2, o2, none⟩) h.length c2) ∧ w'.cell? ⟨w.heap.size + 1, 0, none⟩ = some (.int .i64 i) ∧ w'.cell? ⟨w.heap.size + 1, 1, none⟩ = some (.int .i64 k))
      (first | exact HD.out _ HN3.out | exact HD.out _ HN3.out.drew | exact HD.out _ (HN3.out.trans hb) | exact HD.out _ (HN3.out.drew.trans hb) | exact HD.out _ ((HN3.out.trans hb).alloc _) | exact HD.out _ ((HN3.out.drew.trans hb).alloc _) | exact HD.out _ hn4)
      (first | (go_at_fn fe; refine (HE.out _).mono ?_; rintro e w' ⟨rfl, hb⟩) | (refine step_append_lies _ (by rfl) _ _ _ (by rfl) W.heap.size 65 i0 _ 3 24 (by exact under_steps) HI.out.1 HI.out.2.1 HI.out.2.2.1 HI.out.2.2.2 (by rfl) (by decide) _ _ _ (by rfl) (owns_keep own3 (New.alloc (by first | exact hb | exact (New.refl W3).drew.trans hb) _)) _ 1 1 (stC (-1, (k : Int), ex)) (by rfl) (by rfl) (World.news_of_block (heap_alloc_new _ _)) (by simp [stC, Value.oneCell']) (by decide) (by decide) (by decide) (by have h1 := HN3.out.size; have h2 := New.size hb; simp at h2 ⊢; omega) _ rfl ?_; intro g4 cap4 W4 ho4 hg _ _; have hn4 : New W W4 := Below.trans (New.alloc (by first | exact HN3.out.trans hb | exact HN3.out.drew.trans hb) _) (grown_below (owns_keep own3 (New.alloc (by first | exact hb | exact (New.refl W3).drew.trans hb) _)) hg (by have h1 := HN3.out.size; have h2 := New.size hb; simp at h2 ⊢; omega))))
    have own4 : W4.ownsRow W.heap.size 65 3 (.slice (some ⟨g4, 0, none⟩) 3 cap4) 3 (stsC [((i : Int), (k : Int), (mdC F m).sw x y), ((i : Int), -1, ms), (-1, (k : Int), ex)]) := ho4
    have HN4 := Lib.hid hn4
    clear hb hg ho4
    clear hn4
    go_wp2_with fail
    go_ret
    have hst : stpsL (mdC F m) s h (i, k) = _ := HST.out
    rw [hst]
    exact ⟨_, rfl, owns_base own4 (by rw [hsz]; omega), HNW.out.trans HN4.out⟩
  · clear hs3 hh3 ks kh
    go_enter Tryz.func69, Tryz.ntmps69
    go_wp2_with fail
    go_quiet (fail)
    go_wp2_with fail
    rw [HWW.out]
    have hn1 := (New.refl W).drewN nq
    obtain ⟨-, q1, q2, q3, q4, q5⟩ := HD.out _ hn1
    generalize W.drewN nq = W1 at *
    have HN1 := Lib.hid hn1
    have own1 : W1.ownsRow W.heap.size 65 3 (.slice none 0 0) 0 [] := World.ownsRow_nil _ _ _ _
    clear hn1
    go_region_held3 (fun w' => New W w' ∧ w'.cell? ⟨w.heap.size, 0, none⟩ = some (.iface tm (.agg #[])) ∧ w'.cell? ⟨w.heap.size, 1, none⟩ = some (.slice A1 s.length c1) ∧ w'.cell? ⟨w.heap.size, 2, none⟩ = some (.slice A2 h.length c2) ∧ w'.cell? ⟨w.heap.size + 1, 0, none⟩ = some (.int .i64 i) ∧ w'.cell? ⟨w.heap.size + 1, 1, none⟩ = some (.int .i64 k))
      (first | exact HD.out _ HN1.out | exact HD.out _ HN1.out.drew | exact HD.out _ (HN1.out.trans hb) | exact HD.out _ (HN1.out.drew.trans hb) | exact HD.out _ ((HN1.out.trans hb).alloc _) | exact HD.out _ ((HN1.out.drew.trans hb).alloc _) | exact HD.out _ hn2)
      (first | (go_at_fn fm; refine (HM.out _).mono ?_; rintro e w' ⟨rfl, hb⟩) | (refine step_append_lies _ (by rfl) _ _ _ (by rfl) W.heap.size 65 i0 _ 3 24 (by exact under_steps) HI.out.1 HI.out.2.1 HI.out.2.2.1 HI.out.2.2.2 (by rfl) (by decide) _ _ _ (by rfl) (owns_keep own1 (New.alloc (by first | exact hb | exact (New.refl W1).drew.trans hb) _)) _ 1 1 (stC ((i : Int), -1, ms)) (by rfl) (by rfl) (World.news_of_block (heap_alloc_new _ _)) (by simp [stC, Value.oneCell']) (by decide) (by decide) (by decide) (by have h1 := HN1.out.size; have h2 := New.size hb; simp at h2 ⊢; omega) _ rfl ?_; intro g2 cap2 W2 ho2 hg _ _; have hn2 : New W W2 := Below.trans (New.alloc (by first | exact HN1.out.trans hb | exact HN1.out.drew.trans hb) _) (grown_below (owns_keep own1 (New.alloc (by first | exact hb | exact (New.refl W1).drew.trans hb) _)) hg (by have h1 := HN1.out.size; have h2 := New.size hb; simp at h2 ⊢; omega))))
    have own2 : W2.ownsRow W.heap.size 65 3 (.slice (some ⟨g2, 0, none⟩) 1 cap2) 1 (stsC [((i : Int), -1, ms)]) := ho2
    have HN2 := Lib.hid hn2
    clear hb hg ho2
    clear hn2
    go_wp2_with fail
    go_ret
    have hst : stpsL (mdC F m) s h (i, k) = [((i : Int), -1, ms)] := by simp [stpsL, h1, h2, hms]
    rw [hst]
    exact ⟨_, rfl, owns_base own2 (by rw [hsz]; omega), HNW.out.trans HN2.out⟩
  · clear hs3 hh3 ks kh
    go_enter Tryz.func69, Tryz.ntmps69
    go_wp2_with fail
    go_quiet (fail)
    go_wp2_with fail
    rw [HWW.out]
    have hn1 := (New.refl W).drewN nq
    obtain ⟨-, q1, q2, q3, q4, q5⟩ := HD.out _ hn1
    generalize W.drewN nq = W1 at *
    have HN1 := Lib.hid hn1
    have own1 : W1.ownsRow W.heap.size 65 3 (.slice none 0 0) 0 [] := World.ownsRow_nil _ _ _ _
    clear hn1
    go_region_held3 (fun w' => New W w' ∧ w'.cell? ⟨w.heap.size, 0, none⟩ = some (.iface tm (.agg #[])) ∧ w'.cell? ⟨w.heap.size, 1, none⟩ = some (.slice A1 s.length c1) ∧ w'.cell? ⟨w.heap.size, 2, none⟩ = some (.slice A2 h.length c2) ∧ w'.cell? ⟨w.heap.size + 1, 0, none⟩ = some (.int .i64 i) ∧ w'.cell? ⟨w.heap.size + 1, 1, none⟩ = some (.int .i64 k))
      (first | exact HD.out _ HN1.out | exact HD.out _ HN1.out.drew | exact HD.out _ (HN1.out.trans hb) | exact HD.out _ (HN1.out.drew.trans hb) | exact HD.out _ ((HN1.out.trans hb).alloc _) | exact HD.out _ ((HN1.out.drew.trans hb).alloc _) | exact HD.out _ hn2)
      (first | (go_at_fn fe; refine (HE.out _).mono ?_; rintro e w' ⟨rfl, hb⟩) | (refine step_append_lies _ (by rfl) _ _ _ (by rfl) W.heap.size 65 i0 _ 3 24 (by exact under_steps) HI.out.1 HI.out.2.1 HI.out.2.2.1 HI.out.2.2.2 (by rfl) (by decide) _ _ _ (by rfl) (owns_keep own1 (New.alloc (by first | exact hb | exact (New.refl W1).drew.trans hb) _)) _ 1 1 (stC (-1, (k : Int), ex)) (by rfl) (by rfl) (World.news_of_block (heap_alloc_new _ _)) (by simp [stC, Value.oneCell']) (by decide) (by decide) (by decide) (by have h1 := HN1.out.size; have h2 := New.size hb; simp at h2 ⊢; omega) _ rfl ?_; intro g2 cap2 W2 ho2 hg _ _; have hn2 : New W W2 := Below.trans (New.alloc (by first | exact HN1.out.trans hb | exact HN1.out.drew.trans hb) _) (grown_below (owns_keep own1 (New.alloc (by first | exact hb | exact (New.refl W1).drew.trans hb) _)) hg (by have h1 := HN1.out.size; have h2 := New.size hb; simp at h2 ⊢; omega))))
    have own2 : W2.ownsRow W.heap.size 65 3 (.slice (some ⟨g2, 0, none⟩) 1 cap2) 1 (stsC [(-1, (k : Int), ex)]) := ho2
    have HN2 := Lib.hid hn2
    clear hb hg ho2
    clear hn2
    go_wp2_with fail
    go_ret
    have hst : stpsL (mdC F m) s h (i, k) = [(-1, (k : Int), ex)] := by simp [stpsL, h1, h2, hex]
    rw [hst]
    exact ⟨_, rfl, owns_base own2 (by rw [hsz]; omega), HNW.out.trans HN2.out⟩
  · clear hs3 hh3 ks kh
    go_enter Tryz.func69, Tryz.ntmps69
    go_wp2_with fail
    go_quiet (fail)
    go_wp2_with fail
    go_ret
    rw [HWW.out]
    have hst : stpsL (mdC F m) s h (i, k) = [] := by simp [stpsL, h1, h2]
    rw [hst]
    exact ⟨_, rfl, World.ownsRow_nil _ _ _ _, HNW.out.drewN _⟩
end Go.Proofs.YthodoabppkeidaaGreatDoor
