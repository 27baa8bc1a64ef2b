/-
  Keeps of the program: whether times keep all bounds of a system. Condition: the system and the times lie in memory.
-/
import Derived.Test.YtodmbcoobjcooaaDoorCkPots
import Derived.Test.YtodmbcoobjcooaaDoorCkColl
import Derived.Laws.EntriesVeiled
namespace Go.Proofs.YtodmbcoobjcooaaDoor
open Go Go.RowKit Go.Shelf
attribute [local go_sem] Oper.semAt_some
theorem fit_mom {s : Sy} {l : List (List Int)} (hf : fitB s l = true) {r : Rf} (hr : RefOk s r) : MomOk l r ∧ -1000000 ≤ momAt l r ∧ momAt l r ≤ 1000000 := by
  rcases hr with rfl | hr
  · have e : momAt l beg = 0 := rfl
    rw [e]
    exact ⟨.inl rfl, by decide, by decide⟩
  · obtain ⟨-, -, -, a1, a2, a3, a4⟩ := plc_line hr
    unfold fitB at hf
    simp only [Bool.and_eq_true, List.all_eq_true, decide_eq_true_eq] at hf
    obtain ⟨f1, f2⟩ := hf
    have f3 := f2 _ (List.mem_range.2 a1)
    unfold fitR at f3
    simp only [Bool.and_eq_true, List.all_eq_true, decide_eq_true_eq] at f3
    obtain ⟨f4, f5⟩ := f3
    have hj : r.line.toNat < (l[r.log.toNat]?.getD []).length := by omega
    refine ⟨.inr ⟨a3, by omega, a4, by omega⟩, ?_⟩
    unfold momAt
    rw [if_neg (by omega)]
    have := f5 _ (List.getElem_mem hj)
    rw [wiB_iff] at this
    rw [List.getElem?_eq_getElem hj]
    exact this
/-- Whether times keep all bounds of a system that may be valid or not. -/
def keepsB (s : Sy) (l : List (List Int)) : Bool := decide (checkE s = 0) && (fitB s l && allK s l)
/-- Between two rounds. -/
def KpI (s : Sy) (n0 b1 b2 bk L : Nat) (lv : Value) (l : List (List Int)) (w : World) (pre : List (BdOf s)) (W : World) : Prop :=
  (∀ b ∈ pre, keepB l b.1 = true) ∧ RowIs W b1 4 [.bool false] ∧ RowIs W b2 33 [.int .i64 0] ∧ RowIs W bk 119 [.func (.func 89) #[lv] #[]] ∧ Below n0 w W ∧ L ≤ W.heap.size
/-- Where the loop is left. -/
def KpX (s : Sy) (n0 b1 b2 : Nat) (l : List (List Int)) (w : World) (c : Code) (_ : List (BdOf s)) (W : World) : Prop :=
  c = .ret ∧ (∃ b : BdOf s, keepB l b.1 = false) ∧ RowIs W b1 4 [.bool false] ∧ RowIs W b2 33 [.int .i64 0] ∧ Below n0 w W
theorem kpI_own (s : Sy) (n0 b1 b2 bk L B : Nat) (lv : Value) (l : List (List Int)) (w : World) (hn : n0 ≤ B) (hw : n0 = w.heap.size) : OwnFrom B (KpI s n0 b1 b2 bk L lv l w) := fun pre X Y row hs hg hr => by
  obtain ⟨h0, h1, h2, h3, h5, h6⟩ := hs
  refine ⟨h0, rowIs_own B b1 _ _ () X Y row h1 hg hr, rowIs_own B b2 _ _ () X Y row h2 hg hr, rowIs_own B bk _ _ () X Y row h3 hg hr, ?_, Nat.le_trans h6 hg.size⟩
  exact h5.grown hg (by have := h5.size; omega) (fun k e => by have := (hr k e).1; omega)
theorem kpX_own (s : Sy) (n0 b1 b2 B : Nat) (l : List (List Int)) (w : World) (c : Code) (hn : n0 ≤ B) (hw : n0 = w.heap.size) : OwnFrom B (KpX s n0 b1 b2 l w c) := fun pre X Y row hs hg hr => by
  obtain ⟨h0, h3, h1, h2, h5⟩ := hs
  exact ⟨h0, h3, rowIs_own B b1 _ _ () X Y row h1 hg hr, rowIs_own B b2 _ _ () X Y row h2 hg hr, h5.grown hg (by have := h5.size; omega) (fun k e => by have := (hr k e).1; omega)⟩
theorem KpI.keep {s : Sy} {n0 b1 b2 bk L : Nat} {lv : Value} {l : List (List Int)} {w : World} {pre : List (BdOf s)} {W W' : World} (h : KpI s n0 b1 b2 bk L lv l w pre W) (k : New W W') (hw : n0 ≤ w.heap.size) : KpI s n0 b1 b2 bk L lv l w pre W' := by
  obtain ⟨h0, h1, h2, h3, h5, h6⟩ := h
  exact ⟨h0, h1.keep k, h2.keep k, h3.keep k, h5.trans (Below.mono k (Nat.le_trans hw h5.size)), Nat.le_trans h6 k.size⟩
set_option maxRecDepth 100000 in
set_option maxHeartbeats 8000000 in
theorem ck_Keeps (s : Sy) (l : List (List Int)) (A D L : Option Addr) (c d lc : Nat) (w : World) (hM : SysM w A D s) (hbeg : BegA w) (hL : IssA w L l) :
    Calls Tryd.prog 48 #[.agg #[.slice A s.tracks.length c, .slice D s.ties.length d, .int .i64 s.window], .slice L l.length lc] w fun e w' => e = .returned (.tuple #[.bool (keepsB s l), .int .i64 (checkE s)]) ∧ New w w' := by
  have n3 := (((New.refl w).alloc (.cells #[.slice A s.tracks.length c, .slice D s.ties.length d, .int .i64 s.window] 25)).alloc (.cells #[.bool false] 4)).alloc (.cells #[.int .i64 0] 33)
  have r0 := (RowIs.new w 25 [.slice A s.tracks.length c, .slice D s.ties.length d, .int .i64 s.window]).keep (((New.refl _).alloc (.cells #[.bool false] 4)).alloc (.cells #[.int .i64 0] 33))
  have r1 := (RowIs.new (w.alloc (.cells #[.slice A s.tracks.length c, .slice D s.ties.length d, .int .i64 s.window] 25)) 4 [.bool false]).keep ((New.refl _).alloc (.cells #[.int .i64 0] 33))
  have r2 := RowIs.new ((w.alloc (.cells #[.slice A s.tracks.length c, .slice D s.ties.length d, .int .i64 s.window] 25)).alloc (.cells #[.bool false] 4)) 33 [.int .i64 0]
  simp only [World.size_alloc] at r1 r2
  have HR0 := Lib.hid r0
  have HR1 := Lib.hid r1
  have HR2 := Lib.hid r2
  have HN := Lib.hid n3
  have HM := Lib.hid hM
  have HBG := Lib.hid hbeg
  have HL := Lib.hid hL
  have HC : Hid (∀ w', New w w' → _) := Lib.hid fun w' h => ck_Check s A D c d w' (hM.keep h)
  clear hM hbeg hL r0 r1 r2 n3
  have c0 := HR0.out.cell (i := 0) rfl
  have c1 := HR0.out.cell (i := 1) rfl
  have c2 := HR0.out.cell (i := 2) rfl
  have hdd : ∀ k : Nat, (Fence.wide.depth.isSome = true → 1 ≤ k) := fun k h => by cases h
  by_cases he : checkE s = 0
  · have HOK : Hid (Ok s) := Lib.hid he
    have HKB : Hid (keepsB s l = (fitB s l && allK s l)) := Lib.hid (by simp [keepsB, he])
    rw [HKB.out]
    have HF : Hid (∀ w', New w w' → _) := Lib.hid fun w' h => ck_fit s l A D L c d lc w' (HM.out.keep h) (HL.out.keep h)
    generalize hE : checkE s = er at *
    subst he
    clear hE HKB
    refine (callsIn_wide (n := 6)).1 ?_
    refine callsIn_of_wp_marks Tryd.func48 rfl trivial ?_ rfl
    simp only [Tryd.ntmps48, List.size_toArray, List.length_cons, List.length_nil, Nat.reduceAdd, Nat.reduceSub, Array.replicate_succ, Array.replicate_zero, List.push_toArray, List.append_toArray, List.nil_append, List.cons_append]
    gi_wp2_with fail
    refine ⟨trivial, (callsIn_wide.2 (HC.out _ HN.out)).mono ?_⟩
    rintro e w1 ⟨rfl, m1⟩
    have HA0 := Lib.hid (HR0.out.keep m1)
    have HA1 := Lib.hid (HR1.out.keep m1)
    have HA2 := Lib.hid (HR2.out.keep m1)
    have HN1 := Lib.hid (HN.out.trans m1)
    clear m1 c0 c1 c2 HR0 HR1 HR2 HN HC
    have c0 := HA0.out.cell (i := 0) rfl
    have c1 := HA0.out.cell (i := 1) rfl
    have c2 := HA0.out.cell (i := 2) rfl
    gi_wp2_with fail
    refine ⟨trivial, (callsIn_wide.2 (HF.out _ HN1.out)).mono ?_⟩
    rintro e w2 ⟨rfl, m2⟩
    have HB0 := Lib.hid (HA0.out.keep m2)
    have HB1 := Lib.hid (HA1.out.keep m2)
    have HB2 := Lib.hid (HA2.out.keep m2)
    have HN2 := Lib.hid (HN1.out.trans m2)
    clear m2 c0 c1 c2 HA0 HA1 HA2 HN1 HF
    have HFM : Hid (fitB s l = true → ∀ r, RefOk s r → _) := Lib.hid fun h r hr => fit_mom h hr
    cases hf : fitB s l with
    | false =>
      have c1 := HB1.out.cell (i := 0) rfl
      have f1 := HB1.out.free 0
      have c2 := HB2.out.cell (i := 0) rfl
      have f2 := HB2.out.free 0
      have HX1 := Lib.hid ((HB1.out.put 0 (.bool false)).other (k := w.heap.size + 1 + 1) (by omega) 0 (.int .i64 0))
      have HX2 := Lib.hid ((HB2.out.other (k := w.heap.size + 1) (by omega) 0 (.bool false)).put 0 (.int .i64 0))
      have HNX := Lib.hid ((HN2.out.setCell (p := ⟨w.heap.size + 1, 0, none⟩) (by show w.heap.size ≤ w.heap.size + 1; omega) (.bool false)).setCell (p := ⟨w.heap.size + 1 + 1, 0, none⟩) (by show w.heap.size ≤ w.heap.size + 1 + 1; omega) (.int .i64 0))
      gi_wp2_with fail
      clear c1 c2 f1 f2
      have e0 := HX1.out.cell (i := 0) rfl
      have e1 := HX2.out.cell (i := 0) rfl
      refine ⟨.tuple #[.bool false, .int .i64 0], ?_, by simp [hf], HNX.out⟩
      clear HX1 HX2 HNX HB0 HB1 HB2
      simp [results, Tryd.results48, go_sem, e0, e1]
    | true =>
    have c0 := HB0.out.cell (i := 0) rfl
    have c1 := HB0.out.cell (i := 1) rfl
    have c2 := HB0.out.cell (i := 2) rfl
    have hl0 := HB0.out.lt
    gi_wp2_with fail
    refine ⟨trivial, (ck_bounds _ _ _ _ _).mono ?_⟩
    rintro e w' ⟨rfl, rfl⟩
    have nf := (New.refl w2).alloc (.cells #[.func (.func 89) #[.slice L l.length lc] #[]] 119)
    have ns := (New.refl (w2.alloc (.cells #[.func (.func 89) #[.slice L l.length lc] #[]] 119))).alloc (.cells #[.slice A s.tracks.length c, .slice D s.ties.length d, .int .i64 s.window] 25)
    have RF := (RowIs.new w2 119 [.func (.func 89) #[.slice L l.length lc] #[]]).keep ns
    have RS := RowIs.new (w2.alloc (.cells #[.func (.func 89) #[.slice L l.length lc] #[]] 119)) 25 [.slice A s.tracks.length c, .slice D s.ties.length d, .int .i64 s.window]
    simp only [World.size_alloc] at RS
    have HRS := Lib.hid RS
    have HNL := Lib.hid (HN2.out.trans (nf.trans ns))
    have HS1 := Lib.hid (HB1.out.keep (nf.trans ns))
    have HS2 := Lib.hid (HB2.out.keep (nf.trans ns))
    have HRF := Lib.hid RF
    have HLT : Hid (w.heap.size + 1 + 1 < w2.heap.size) := Lib.hid HB2.out.lt
    have hszL : ((w2.alloc (.cells #[.func (.func 89) #[.slice L l.length lc] #[]] 119)).alloc (.cells #[.slice A s.tracks.length c, .slice D s.ties.length d, .int .i64 s.window] 25)).heap.size = w2.heap.size + 2 := by simp
    have hbl := bnds_len HOK.out
    clear nf ns RF RS c0 c1 c2 hl0 HB0 HB1 HB2 HN2
    generalize hWL : (w2.alloc (.cells #[.func (.func 89) #[.slice L l.length lc] #[]] 119)).alloc (.cells #[.slice A s.tracks.length c, .slice D s.ties.length d, .int .i64 s.window] 25) = WL at *
    have HSZ := Lib.hid hszL
    have HI0 : Hid (KpI s w.heap.size (w.heap.size + 1) (w.heap.size + 1 + 1) w2.heap.size WL.heap.size (.slice L l.length lc) l w [] WL) := Lib.hid ⟨(fun _ h => by cases h), HS1.out, HS2.out, HRF.out, HNL.out, Nat.le_refl _⟩
    have HSEQ := Lib.hid (bounds_stops (sftC w.heap.size) s HOK.out A D c d (w2.heap.size + 1) WL w rfl HNL.out trivial HM.out HBG.out ⟨⟨_, _, _, HRS.out⟩, HRS.out⟩ (6 - 1))
    have HFM2 := Lib.hid (HFM.out hf)
    have HFT := Lib.hid hf
    clear hWL hszL HRS HS1 HS2 HRF HFM hf
    gi_wp2_with fail
    refine range_box 24 9 91 (fun x : BdOf s => bdV x.1) (fun x : BdOf s => bdCs x.1) rfl (by omega) (gf := 113) (lb := #[.pointer (some ⟨w2.heap.size + 1, 0, none⟩)]) rfl trivial (enters_of Tryd.func113 (by kernel_rfl) rfl)
      HSEQ.out (fun {A B C} h k => Ev.trans h k) (fun W l o o' hl h1 h2 _ => evC_put hl (by have := HLT.out; have := HSZ.out; omega) h1 h2) (Below.refl _ _) (fun _ => rfl)
      (KpI s w.heap.size (w.heap.size + 1) (w.heap.size + 1 + 1) w2.heap.size WL.heap.size (.slice L l.length lc) l w) (KpX s w.heap.size (w.heap.size + 1) (w.heap.size + 1 + 1) l w) (kpI_own s _ _ _ _ _ _ _ _ w (by have := HLT.out; have := HSZ.out; omega) rfl) (fun cc => kpX_own s _ _ _ _ _ w cc (by have := HLT.out; have := HSZ.out; omega) rfl) HI0.out ?assign ?body ?done ?stop
    case assign =>
      intro l pre x W K hi hK
      have HKK := Lib.hid hK
      have hb5 := hi.2.2.2.2.1
      have hb6 := hi.2.2.2.2.2
      have HBI := Lib.hid hi
      clear hK hi
      obtain ⟨⟨⟨fl, fi⟩, ⟨tl, ti⟩, mo, kd, id⟩, hx⟩ := x
      unfold bdV
      gi_wp2
      exact HKK.out W.heap.size _ ((KeepsOthers.alloc _ _).from _) (Ev.new (sftC _) hb5.size ((New.refl W).alloc _)) (HBI.out.keep ((New.refl W).alloc _) (Nat.le_refl _)) hb6 (RowIs.new W _ _)
    case body =>
      rintro lp pre ⟨⟨⟨fl, fi⟩, ⟨tl, ti⟩, mo, kd, id⟩, hx⟩ Bx W hni hBx hrx hlen
      obtain ⟨q0, q1, q2, q3, qb, qs⟩ := hni
      dsimp only at hrx ⊢
      have hok := bnds_ok HOK.out hx
      have HNW : Hid (New w W) := Lib.hid qb
      have hmf := HFM2.out _ hok.1
      have hmt := HFM2.out _ hok.2.1
      have HCK := Lib.hid (ck_keep l L lc ⟨⟨fl, fi⟩, ⟨tl, ti⟩, mo, kd, id⟩ W ⟨HNW.out.cellOf HBG.out.1, HNW.out.cellOf HBG.out.2⟩ (HL.out.keep HNW.out) hmf.1 hmt.1 hmf.2 (by have := hok.2.2.2; omega))
      have x0 := hrx.cell (i := 0) rfl
      have x1 := hrx.cell (i := 1) rfl
      have x2 := hrx.cell (i := 2) rfl
      have x3 := hrx.cell (i := 3) rfl
      have x4 := hrx.cell (i := 4) rfl
      have x5 := hrx.cell (i := 5) rfl
      have x6 := hrx.cell (i := 6) rfl
      have x7 := q3.cell (i := 0) rfl
      have HQ := Lib.hid (And.intro q0 (And.intro q1 (And.intro q2 (And.intro q3 (And.intro qb qs)))))
      have HQ1 := Lib.hid q1
      have HQ2 := Lib.hid q2
      dsimp only at x0 x1 x2 x3 x4 x5 x6 HCK
      have HBX := Lib.hid hBx
      clear q0 q1 q2 q3 qb qs hmf hmt hok hrx
      simp only [actB, List.setIfInBounds_toArray, List.set_cons_zero, List.set_cons_succ]
      unfold bdV
      gi_wp2_with fail
      refine ⟨trivial, CallsIn.inRound lp ((callsIn_wide.2 HCK.out).mono ?_)⟩
      rintro e w3 ⟨rfl, m3⟩
      have HM3 := Lib.hid m3
      clear x0 x1 x2 x3 x4 x5 x6 x7 HCK m3
      cases hk : keepB l ⟨⟨fl, fi⟩, ⟨tl, ti⟩, mo, kd, id⟩ with
      | true =>
        gi_wp2_with fail
        obtain ⟨q0, q1, q2, q3, qb, qs⟩ := HQ.out
        refine ⟨(KeepsOthers.of_grownBy (grown_of HM3.out none) (fun j o ej _ => by cases ej)).from _, Ev.new (sftC _) qb.size HM3.out, ?_⟩
        refine KpI.keep ⟨?_, q1, q2, q3, qb, qs⟩ HM3.out (Nat.le_refl _)
        intro b hb
        rcases List.mem_append.1 hb with hb | hb
        · exact q0 b hb
        · rw [List.mem_singleton] at hb; subst hb; exact hk
      | false =>
        have HX1 := Lib.hid (HQ1.out.keep HM3.out)
        have HX2 := Lib.hid (HQ2.out.keep HM3.out)
        have c1 := HX1.out.cell (i := 0) rfl
        have f1 := HX1.out.free 0
        have c2 := HX2.out.cell (i := 0) rfl
        have f2 := HX2.out.free 0
        gi_wp2_with fail
        refine ⟨?_, rfl, ⟨⟨⟨⟨fl, fi⟩, ⟨tl, ti⟩, mo, kd, id⟩, hx⟩, hk⟩, (HX1.out.put 0 (.bool false)).other (k := w.heap.size + 1 + 1) (by omega) 0 (.int .i64 0), (HX2.out.other (k := w.heap.size + 1) (by omega) 0 (.bool false)).put 0 (.int .i64 0), ?_⟩
        · exact (((KeepsOthers.of_grownBy (grown_of HM3.out none) (fun j o ej _ => by cases ej)).trans (KeepsOthers.setCell _ _ _)).trans (KeepsOthers.setCell _ _ _)).from _
        · exact ((HNW.out.trans HM3.out).setCell (p := ⟨w.heap.size + 1, 0, none⟩) (by show w.heap.size ≤ w.heap.size + 1; omega) (.bool false)).setCell (p := ⟨w.heap.size + 1 + 1, 0, none⟩) (by show w.heap.size ≤ w.heap.size + 1 + 1; omega) (.int .i64 0)
    case done =>
      rintro D ys W hD hys ⟨q0, q1, q2, q3, qb, qs⟩ hK
      have HAL : Hid (allK s l = true) := Lib.hid (by
        unfold allK
        refine List.all_eq_true.2 fun b hb => ?_
        rw [← hys] at hb
        obtain ⟨x, hx, rfl⟩ := List.mem_map.1 hb
        exact q0 x hx)
      have c1 := q1.cell (i := 0) rfl
      have f1 := q1.free 0
      have c2 := q2.cell (i := 0) rfl
      have f2 := q2.free 0
      have HX1 := Lib.hid ((q1.put 0 (.bool true)).other (k := w.heap.size + 1 + 1) (by omega) 0 (.int .i64 0))
      have HX2 := Lib.hid ((q2.other (k := w.heap.size + 1) (by omega) 0 (.bool true)).put 0 (.int .i64 0))
      have HNX := Lib.hid (Below.setCell (Below.setCell qb (p := ⟨w.heap.size + 1, 0, none⟩) (by show w.heap.size ≤ w.heap.size + 1; omega) (.bool true)) (p := ⟨w.heap.size + 1 + 1, 0, none⟩) (by show w.heap.size ≤ w.heap.size + 1 + 1; omega) (.int .i64 0))
      have hDg : w.heap.size + 1 + 1 < D := by have := HLT.out; have := HSZ.out; omega
      have hK2 : ((W.setCell ⟨w.heap.size + 1, 0, none⟩ (.bool true)).setCell ⟨w.heap.size + 1 + 1, 0, none⟩ (.int .i64 0)).heap[D]? = some (.deferred (some [])) := (Below.heap_setCell _ ⟨w.heap.size + 1 + 1, 0, none⟩ _ D (by show D ≠ w.heap.size + 1 + 1; omega)).trans ((Below.heap_setCell _ ⟨w.heap.size + 1, 0, none⟩ _ D (by show D ≠ w.heap.size + 1; omega)).trans hK)
      have HK := Lib.hid hK2
      have HDD := Lib.hid hDg
      clear hK hK2 hD hys q0 q1 q2 q3 qb qs hDg
      gi_wp2_with fail
      clear c1 f1 c2 f2
      generalize (W.setCell ⟨w.heap.size + 1, 0, none⟩ (.bool true)).setCell ⟨w.heap.size + 1 + 1, 0, none⟩ (.int .i64 0) = W2 at *
      have hDg := HDD.out
      have e1 : (W2.putObj D (.deferred none)).cell? ⟨w.heap.size + 1, 0, none⟩ = some (.bool true) := RowIs.cell (cs := [.bool true]) ((World.putObj_heap_other (by omega)).trans HX1.out) rfl
      have e2 : (W2.putObj D (.deferred none)).cell? ⟨w.heap.size + 1 + 1, 0, none⟩ = some (.int .i64 0) := RowIs.cell (cs := [.int .i64 0]) ((World.putObj_heap_other (by omega)).trans HX2.out) rfl
      refine ⟨by simp, .inl ⟨_, _, rfl, run_takeDeferred HK.out, ?_⟩⟩
      refine ⟨.tuple #[.bool true, .int .i64 0], ?_, by simp [HAL.out, HFT.out], HNX.out.trans (belowK_b (w := w) (Nat.le_refl _) W2 D _ _ (by omega) HK.out rfl rfl)⟩
      clear HX1 HX2 HNX HAL HFT HDD HK
      simp [results, Tryd.results48, go_sem, e1, e2]
    case stop =>
      rintro D cc pre W hD _ ⟨rfl, hex, q1, q2, qb⟩ hK
      have HAL : Hid (allK s l = false) := Lib.hid (by
        obtain ⟨b, hb⟩ := hex
        cases h : allK s l with
        | false => rfl
        | true =>
          unfold allK at h
          have := List.all_eq_true.1 h b.1 b.2
          rw [hb] at this
          cases this)
      have hDg : w.heap.size + 1 + 1 < D := by have := HLT.out; have := HSZ.out; omega
      have HX1 := Lib.hid q1
      have HX2 := Lib.hid q2
      have HNX := Lib.hid qb
      have HK := Lib.hid hK
      clear q1 q2 qb hK hex
      gi_wp2_with fail
      have e1 : (W.putObj D (.deferred none)).cell? ⟨w.heap.size + 1, 0, none⟩ = some (.bool false) := RowIs.cell (cs := [.bool false]) ((World.putObj_heap_other (by omega)).trans HX1.out) rfl
      have e2 : (W.putObj D (.deferred none)).cell? ⟨w.heap.size + 1 + 1, 0, none⟩ = some (.int .i64 0) := RowIs.cell (cs := [.int .i64 0]) ((World.putObj_heap_other (by omega)).trans HX2.out) rfl
      refine ⟨by simp, .inl ⟨_, _, rfl, run_takeDeferred HK.out, ?_⟩⟩
      refine ⟨.tuple #[.bool false, .int .i64 0], ?_, by simp [HAL.out], HNX.out.trans (belowK_b (w := w) (Nat.le_refl _) W D _ _ (by omega) HK.out rfl rfl)⟩
      clear HX1 HX2 HNX HAL HFT HK
      simp [results, Tryd.results48, go_sem, e1, e2]
  · have HKB : Hid (keepsB s l = false) := Lib.hid (by simp [keepsB, he])
    rw [HKB.out]
    have hne : (checkE s != 0) = true := by simp [he]
    generalize checkE s = er at *
    refine (callsIn_wide (n := 6)).1 ?_
    refine callsIn_of_wp_marks Tryd.func48 rfl trivial ?_ rfl
    simp only [Tryd.ntmps48, List.size_toArray, List.length_cons, List.length_nil, Nat.reduceAdd, Nat.reduceSub, Array.replicate_succ, Array.replicate_zero, List.push_toArray, List.append_toArray, List.nil_append, List.cons_append]
    gi_wp2_with fail
    refine ⟨trivial, (callsIn_wide.2 (HC.out _ HN.out)).mono ?_⟩
    rintro e w1 ⟨rfl, m1⟩
    have HB1 := Lib.hid (HR1.out.keep m1)
    have HB2 := Lib.hid (HR2.out.keep m1)
    have HN2 := Lib.hid (HN.out.trans m1)
    clear m1 c0 c1 c2 HR0 HR1 HR2 HN HC
    have c1 := HB1.out.cell (i := 0) rfl
    have f1 := HB1.out.free 0
    have c2 := HB2.out.cell (i := 0) rfl
    have f2 := HB2.out.free 0
    have HX1 := Lib.hid ((HB1.out.put 0 (.bool false)).other (k := w.heap.size + 1 + 1) (by omega) 0 (.int .i64 er))
    have HX2 := Lib.hid ((HB2.out.other (k := w.heap.size + 1) (by omega) 0 (.bool false)).put 0 (.int .i64 er))
    have HNX := Lib.hid ((HN2.out.setCell (p := ⟨w.heap.size + 1, 0, none⟩) (by show w.heap.size ≤ w.heap.size + 1; omega) (.bool false)).setCell (p := ⟨w.heap.size + 1 + 1, 0, none⟩) (by show w.heap.size ≤ w.heap.size + 1 + 1; omega) (.int .i64 er))
    gi_wp2_with fail
    clear c1 c2 f1 f2
    have e0 := HX1.out.cell (i := 0) rfl
    have e1 := HX2.out.cell (i := 0) rfl
    refine ⟨.tuple #[.bool false, .int .i64 er], ?_, rfl, HNX.out⟩
    clear HX1 HX2 HNX HB1 HB2
    simp [results, Tryd.results48, go_sem, e0, e1]
end Go.Proofs.YtodmbcoobjcooaaDoor
