/-
  slices.Collect of the bounds of a valid system. Condition: the system lies in memory and is valid.
-/
import Derived.Test.YtodmbcoobjcooaaDoorCkNets
import Derived.Maps.OwnIn
import Derived.StillTailTactics
namespace Go.Proofs.YtodmbcoobjcooaaDoor
open Go Go.RowKit Go.Shelf
attribute [local go_sem] Oper.semAt_some
theorem info_bound : (Tryd.prog.info? 91).map (fun i => (i.zero, i.size, i.bytes)) = some (some (.agg #[.int .i64 0, .int .i64 0, .int .i64 0, .int .i64 0, .int .i64 0, .int .i64 0, .int .i64 0]), 7, 56) := by kernel_rfl
theorem under_boundsl : Tryd.prog.underlying 36 = some (.slice 91) := by kernel_rfl
def bdCs (b : Bd) : List Value := [.int .i64 b.frm.log, .int .i64 b.frm.line, .int .i64 b.to.log, .int .i64 b.to.line, .int .i64 b.most, .int .i64 b.kind, .int .i64 b.id]
/-- Between two rounds: the bounds that have come. -/
def ColI (s : Sy) (n0 p L : Nat) (w : World) (pre : List (BdOf s)) (W : World) : Prop :=
  (∃ EA ec, RowIs W p 36 [.slice EA pre.length ec] ∧ W.ownsRow n0 91 7 (.slice EA pre.length ec) pre.length (pre.flatMap fun x => bdCs x.1)) ∧ Below n0 w W ∧ L ≤ W.heap.size
theorem colI_own (s : Sy) (n0 p L B : Nat) (w : World) (hn : n0 ≤ B) (hw : n0 = w.heap.size) : OwnFrom B (ColI s n0 p L w) := fun pre X Y row hs hg hr => by
  obtain ⟨⟨EA, ec, h1, h2⟩, h5, h6⟩ := hs
  refine ⟨⟨EA, ec, rowIs_own B p _ _ () X Y row h1 hg hr, owns_own h2 hg hr⟩, ?_, Nat.le_trans h6 hg.size⟩
  exact h5.grown hg (by have := h5.size; omega) (fun k e => by have := (hr k e).1; omega)
theorem ColI.keep {s : Sy} {n0 p L : Nat} {w : World} {pre : List (BdOf s)} {W W' : World} (h : ColI s n0 p L w pre W) (k : New W W') (hw : n0 ≤ w.heap.size) : ColI s n0 p L w pre W' := by
  obtain ⟨⟨EA, ec, h1, h2⟩, h5, h6⟩ := h
  exact ⟨⟨EA, ec, h1.keep k, owns_keep h2 k⟩, h5.trans (Below.mono k (Nat.le_trans hw h5.size)), Nat.le_trans h6 k.size⟩
set_option maxRecDepth 100000 in
set_option maxHeartbeats 4000000 in
theorem ck_AppendSeq (s : Sy) (hs : Ok s) (A D : Option Addr) (c d Bs : Nat) (w : World) (hM : SysM w A D s) (hbeg : BegA w) (hR : RowIs w Bs 25 [.slice A s.tracks.length c, .slice D s.ties.length d, .int .i64 s.window]) :
    Calls Tryd.prog 112 #[.slice none 0 0, .func (.func 113) #[] #[.pointer (some ⟨Bs, 0, none⟩)]] w fun e w' => ∃ V, e = .returned V ∧ w'.ownsRow w.heap.size 91 7 V (bnds s).length ((bnds s).flatMap bdCs) ∧ New w w' := by
  have n1 := (New.refl w).alloc (.cells #[.slice none 0 0] 36)
  have r1 := RowIs.new w 36 [.slice none 0 0]
  have hbl := bnds_len hs
  have hlt := hR.lt
  have HM := Lib.hid hM
  have HBG := Lib.hid hbeg
  have HS := Lib.hid hs
  have HI0 : Hid (ColI s w.heap.size w.heap.size (w.alloc (.cells #[.slice none 0 0] 36)).heap.size w [] (w.alloc (.cells #[.slice none 0 0] 36))) := Lib.hid ⟨⟨none, 0, r1, World.ownsRow_nil _ _ _ _⟩, n1, Nat.le_refl _⟩
  have HwL : Hid (wfS w.heap.size 0 (w.alloc (.cells #[.slice none 0 0] 36))) := Lib.hid ⟨by simp, fun v q hv hq => by
    rw [r1.cell (i := 0) rfl] at hv
    obtain rfl := Option.some.inj hv
    simp [Value.ownBlock] at hq⟩
  have HSL : Hid (SRow (SafeS w.heap.size 0) (w.alloc (.cells #[.slice none 0 0] 36)) Bs 25 [.slice A s.tracks.length c, .slice D s.ties.length d, .int .i64 s.window]) := Lib.hid ⟨⟨⟨_, _, _, hR.keep n1⟩, by omega, fun v hv => by
    rw [r1.cell (i := 0) rfl] at hv
    obtain rfl := Option.some.inj hv
    simp [Value.ownBlock]⟩, hR.keep n1⟩
  have HBL : Hid (Below w.heap.size w (w.alloc (.cells #[.slice none 0 0] 36))) := Lib.hid n1
  have HLT : Hid (w.heap.size < (w.alloc (.cells #[.slice none 0 0] 36)).heap.size) := Lib.hid (by simp)
  clear n1 r1 hM hbeg hs hR hlt
  refine (callsIn_wide (n := 6)).1 ?_
  refine callsIn_of_wp_marks Tryd.func112 rfl trivial ?_ rfl
  simp only [Tryd.ntmps112, List.size_toArray, List.length_cons, List.length_nil, Nat.reduceAdd, Nat.reduceSub, Array.replicate_succ, Array.replicate_zero, List.push_toArray, List.append_toArray, List.nil_append, List.cons_append]
  gi_wp2_with fail
  generalize hWL : w.alloc (.cells #[.slice none 0 0] 36) = WL at *
  have HSEQ := Lib.hid (bounds_stops (sftS w.heap.size 0 w.heap.size) s HS.out A D c d Bs WL w rfl HBL.out HwL.out HM.out HBG.out HSL.out (6 - 1))
  refine range_box 7 5 91 (fun x : BdOf s => bdV x.1) (fun x : BdOf s => bdCs x.1) rfl (by omega) (gf := 113) (lb := #[.pointer (some ⟨Bs, 0, none⟩)]) rfl trivial (enters_of Tryd.func113 (by kernel_rfl) rfl)
    HSEQ.out (fun {A B C} h k => Ev.trans h k) (fun W l o o' hl h1 h2 _ => evS_put hl (by have := HLT.out; omega) (by have := HLT.out; omega) h1 h2) (Below.refl _ _) (fun _ => rfl)
    (ColI s w.heap.size w.heap.size WL.heap.size w) (fun _ _ _ => False) (colI_own s _ _ _ _ w (by have := HLT.out; omega) rfl) (fun _ _ _ _ _ hs _ _ => hs) HI0.out ?assign ?body ?done ?stop
  case stop =>
    rintro D c pre W _ _ h _
    exact h.elim
  case assign =>
    intro l pre x W K hi hK
    have HKK := Lib.hid hK
    have hb5 := hi.2.1
    have hb6 := hi.2.2
    have HBI := Lib.hid hi
    clear hK hi
    obtain ⟨⟨⟨fl, fi⟩, ⟨tl, ti⟩, mo, kd, id⟩, hx⟩ := x
    unfold bdV
    gi_wp2
    exact HKK.out W.heap.size _ ((KeepsOthers.alloc _ _).from _) (Ev.new (sftS _ _ _) hb5.size ((New.refl W).alloc _)) (HBI.out.keep ((New.refl W).alloc _) (Nat.le_refl _)) hb6 (RowIs.new W _ _)
  case body =>
    rintro l pre ⟨⟨⟨fl, fi⟩, ⟨tl, ti⟩, mo, kd, id⟩, hx⟩ Bx W hni hBx hrx hlen
    obtain ⟨⟨EA, ec, q2, qo⟩, qb, qs⟩ := hni
    dsimp only at hrx ⊢
    have HQ2 := Lib.hid q2
    have HQO := Lib.hid qo
    have HQB := Lib.hid qb
    have HQX := Lib.hid hrx
    have HLT2 := Lib.hid (Nat.lt_of_lt_of_le HLT.out qs)
    have c0 := q2.cell (i := 0) rfl
    have x0 := hrx.cell (i := 0) rfl
    have x1 := hrx.cell (i := 1) rfl
    have x2 := hrx.cell (i := 2) rfl
    have x3 := hrx.cell (i := 3) rfl
    have x4 := hrx.cell (i := 4) rfl
    have x5 := hrx.cell (i := 5) rfl
    have x6 := hrx.cell (i := 6) rfl
    dsimp only at x0 x1 x2 x3 x4 x5 x6
    have hm1 : pre.length + 1 ≤ maxLen := by unfold maxLen; omega
    have hm2 : (pre.length + 1) * 56 ≤ 140737488355328 := by omega
    have n3 := (New.refl W).alloc (.cells #[.int .i64 fl, .int .i64 fi, .int .i64 tl, .int .i64 ti, .int .i64 mo, .int .i64 kd, .int .i64 id] 91)
    have hq0 := owns_keep qo n3
    have hbs : w.heap.size ≤ (W.alloc (.cells #[.int .i64 fl, .int .i64 fi, .int .i64 tl, .int .i64 ti, .int .i64 mo, .int .i64 kd, .int .i64 id] 91)).heap.size := by have := n3.size; have := HLT2.out; omega
    have HN3 := Lib.hid n3
    have HQ0 := Lib.hid hq0
    have HBS := Lib.hid hbs
    obtain ⟨i1, hi1, hy0, hy1, hy2⟩ := info_parts info_bound
    have HI := Lib.hid (And.intro hi1 (And.intro hy0 (And.intro hy1 hy2)))
    clear q2 qo qb hrx n3 hq0 hbs hlen hi1 hy0 hy1 hy2
    simp only [actB, List.setIfInBounds_toArray, List.set_cons_zero, List.set_cons_succ]
    unfold bdV
    gi_wp2_with (gi_at_builtin; refine wpListIn_append_own_at _ rfl (.tmp 8) (.tmp 10) 36 rfl w.heap.size 91 i1 (.agg #[.int .i64 0, .int .i64 0, .int .i64 0, .int .i64 0, .int .i64 0, .int .i64 0, .int .i64 0]) 7 56 under_boundsl HI.out.1 HI.out.2.1 HI.out.2.2.1 HI.out.2.2.2 rfl (by decide) (.slice EA pre.length ec) pre.length _ rfl HQ0.out ⟨W.heap.size, 0, none⟩ 1 1 [.int .i64 fl, .int .i64 fi, .int .i64 tl, .int .i64 ti, .int .i64 mo, .int .i64 kd, .int .i64 id] rfl rfl (World.news_of_block (heap_alloc_new W _)) (by simp [Value.oneCell']) hm1 hm2 HBS.out ?_; intro v' w4 ho hg _ hat; obtain ⟨g, cap, rfl, -, -⟩ := ho.form (by omega); have e2 := (push_all 0 HQ0.out hg ho (HQ2.out.keep HN3.out) (by decide)).1.cell (i := 0) rfl; have ef := (push_all 0 HQ0.out hg ho (HQ2.out.keep HN3.out) (by decide)).1.free 0)
    have hq0 := HQ0.out
    obtain ⟨a1, a2, a3, a4, a5⟩ := push_all 0 hq0 hg ho (HQ2.out.keep HN3.out) (by decide)
    have HEV := Lib.hid (evS_push (p := w.heap.size) (o := 0) HN3.out hq0 hg ho HQ2.out rfl (by decide) (hat.imp (fun h => by rw [← h]; rfl) (fun h => by
      have h2 : g = W.heap.size + 1 := by simpa [Value.ownBlock] using h
      omega)) (by have := HLT2.out; omega) (Nat.le_refl _))
    have HKO : Hid (KeepsFrom WL.heap.size W (w4.setCell ⟨w.heap.size, 0, none⟩ (.slice (some ⟨g, 0, none⟩) (pre.length + 1) cap))) := Lib.hid (((KeepsOthers.of_grownBy (grown_of HN3.out none) (fun j o ej _ => by cases ej)).trans ((KeepsOthers.of_grownBy hg (fun j o ej hoj => ?ko)).trans (KeepsOthers.setCell _ _ _))).from _)
    case ko =>
      rcases hq0.2 with ⟨h1, _⟩ | ⟨g', cap', cur, h1, _, hh, _⟩
      · rw [h1] at ej; cases ej
      · rw [h1] at ej
        obtain rfl : g' = j := by simpa [Value.ownBlock] using ej
        rw [hh] at hoj
        cases hoj
        rfl
    refine ⟨HKO.out, HEV.out, ⟨some ⟨g, 0, none⟩, cap, ?_, ?_⟩, HQB.out.trans HEV.out.1, ?_⟩
    · rw [List.length_append, List.length_singleton]; exact a2
    · rw [List.length_append, List.length_singleton, List.flatMap_append]; exact a3
    · have := HEV.out.1.size
      have h1 : WL.heap.size ≤ W.heap.size := qs
      omega
  case done =>
    rintro D ys W hD hys ⟨⟨EA, ec, q2, qo⟩, qb, qs⟩ hK
    have c0 := q2.cell (i := 0) rfl
    have hyl : ys.length = (bnds s).length := by rw [← hys, List.length_map]
    have hfm : (ys.flatMap fun x => bdCs x.1) = (bnds s).flatMap bdCs := by have h := congrArg (List.flatMap bdCs) hys; rw [List.flatMap_map] at h; exact h
    rw [hfm, hyl] at qo
    have HYL := Lib.hid hyl
    have HQO := Lib.hid qo
    have HQB := Lib.hid qb
    have HDD := Lib.hid hD
    clear q2 qo qb qs hys hD hyl hfm
    gi_wp2_with fail
    refine ⟨by simp, .inl ⟨_, _, rfl, run_takeDeferred hK, ?_⟩⟩
    refine ⟨_, results_tmp rfl _ _ _, _, rfl, ?_, ?_⟩
    · rw [HYL.out]
      exact ownsRow_putObj HQO.out _ hK rfl
    · exact HQB.out.trans (belowK_b (w := w) (Nat.le_refl _) W D _ _ (by have := HLT.out; have := HDD.out; omega) hK rfl rfl)
end Go.Proofs.YtodmbcoobjcooaaDoor
