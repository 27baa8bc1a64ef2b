/-
  spread of the program, at a net that closes: the least sums from a place. Condition: the net lies in memory.
-/
import Derived.Test.YtodmbcoobjcooaaDoorCkCatch
namespace Go.Proofs.YtodmbcoobjcooaaDoor
open Go Go.RowKit Go.Shelf
attribute [local go_sem] Oper.semAt_some
/-- What lies in memory behind the making of the wave. -/
structure SpW (w W : World) (g sb bb : Nat) (s : Sy) (EA : Option Addr) (ec : Nat) (E : List Eg) (r : Rf) (d b : Nat → Int) : Prop where
  wav : WavA w W g sb bb (nPl s) EA ec E d b
  ref : RowIs W w.heap.size 53 [.int .i64 r.log, .int .i64 r.line]
  lop : RowIs W (w.heap.size + 1) 126 [.slice none 0 0]
  ne : w.heap.size + 1 < g ∧ w.heap.size + 1 < sb ∧ w.heap.size + 1 < bb
theorem SpW.keep {w W W' : World} {g sb bb : Nat} {s : Sy} {EA : Option Addr} {ec : Nat} {E : List Eg} {r : Rf} {d b : Nat → Int} (h : SpW w W g sb bb s EA ec E r d b) (k : New W W') : SpW w W' g sb bb s EA ec E r d b :=
  ⟨h.wav.keep k, h.ref.keep k, h.lop.keep k, h.ne⟩
theorem SpW.setS {w W : World} {g sb bb : Nat} {s : Sy} {EA : Option Addr} {ec : Nat} {E : List Eg} {r : Rf} {d b : Nat → Int} (h : SpW w W g sb bb s EA ec E r d b) {i : Nat} (hi : i < nPl s) (x : Int) : SpW w (W.setCell ⟨sb, i, none⟩ (.int .i64 x)) g sb bb s EA ec E r (upd d i x) b :=
  ⟨h.wav.setS hi x, h.ref.other (by have := h.ne; omega) _ _, h.lop.other (by have := h.ne; omega) _ _, h.ne⟩
theorem SpW.setB {w W : World} {g sb bb : Nat} {s : Sy} {EA : Option Addr} {ec : Nat} {E : List Eg} {r : Rf} {d b : Nat → Int} (h : SpW w W g sb bb s EA ec E r d b) {i : Nat} (hi : i < nPl s) (x : Int) : SpW w (W.setCell ⟨bb, i, none⟩ (.int .i64 x)) g sb bb s EA ec E r d (upd b i x) :=
  ⟨h.wav.setB hi x, h.ref.other (by have := h.ne; omega) _ _, h.lop.other (by have := h.ne; omega) _ _, h.ne⟩
theorem WavA.other {w0 W : World} {g sb bb n : Nat} {EA : Option Addr} {ec : Nat} {E : List Eg} {d b : Nat → Int} (h : WavA w0 W g sb bb n EA ec E d b) {p : Nat} (hp : w0.heap.size ≤ p) (h1 : p ≠ g) (h2 : p ≠ sb) (h3 : p ≠ bb) (i : Nat) (v : Value) : WavA w0 (W.setCell ⟨p, i, none⟩ v) g sb bb n EA ec E d b :=
  ⟨h.new.setCell hp _, h.egs, h.hg, h.hs, h.hb, h.gs, h.gb, h.ne, h.row.other h1 _ _, h.sums.other h2 _ _, h.bys.other h3 _ _⟩
theorem spW_mk {w W3 : World} {s : Sy} {EA : Option Addr} {ec : Nat} {E : List Eg} {r : Rf} (np : Nat) (hnp : nPl s = np) (hE : EgsA w EA E) (hn : New w W3) (h1 : RowIs W3 w.heap.size 53 [.int .i64 r.log, .int .i64 r.line]) (h2 : RowIs W3 (w.heap.size + 1) 126 [.slice none 0 0]) (sb bb : Nat) (hb : sb = W3.heap.size ∧ bb = W3.heap.size + 1 ∨ sb = W3.heap.size + 1 ∧ bb = W3.heap.size) :
    SpW w (((W3.alloc (.cells (Array.replicate np (.int .i64 0)) 3)).alloc (.cells (Array.replicate np (.int .i64 0)) 3)).alloc (.cells #[.slice EA E.length ec, .slice (some ⟨sb, 0, none⟩) np np, .slice (some ⟨bb, 0, none⟩) np np] 151)) (W3.heap.size + 1 + 1) sb bb s EA ec E r (fun _ => 0) (fun _ => 0) := by
  subst hnp
  rw [← fnRow_zero]
  have a1 := (New.refl W3).alloc (.cells (fnRow (nPl s) fun _ => 0).toArray 3)
  have a2 := (New.refl (W3.alloc (.cells (fnRow (nPl s) fun _ => 0).toArray 3))).alloc (.cells (fnRow (nPl s) fun _ => 0).toArray 3)
  have a3 := (New.refl ((W3.alloc (.cells (fnRow (nPl s) fun _ => 0).toArray 3)).alloc (.cells (fnRow (nPl s) fun _ => 0).toArray 3))).alloc (.cells #[.slice EA E.length ec, .slice (some ⟨sb, 0, none⟩) (nPl s) (nPl s), .slice (some ⟨bb, 0, none⟩) (nPl s) (nPl s)] 151)
  have r1 := ((RowIs.new W3 3 (fnRow (nPl s) fun _ => 0)).keep a2).keep a3
  have r2 := (RowIs.new (W3.alloc (.cells (fnRow (nPl s) fun _ => 0).toArray 3)) 3 (fnRow (nPl s) fun _ => 0)).keep a3
  have r3 := RowIs.new ((W3.alloc (.cells (fnRow (nPl s) fun _ => 0).toArray 3)).alloc (.cells (fnRow (nPl s) fun _ => 0).toArray 3)) 151 [.slice EA E.length ec, .slice (some ⟨sb, 0, none⟩) (nPl s) (nPl s), .slice (some ⟨bb, 0, none⟩) (nPl s) (nPl s)]
  simp only [World.size_alloc] at r1 r2 r3
  have hsz := hn.size
  have hl := h2.lt
  have all := (a1.trans a2).trans a3
  refine ⟨⟨hn.trans all, hE, by omega, by omega, by omega, by omega, by omega, by omega, r3, ?_, ?_⟩, h1.keep all, h2.keep all, by omega, by omega, by omega⟩
  · rcases hb with ⟨rfl, rfl⟩ | ⟨rfl, rfl⟩
    · exact r1
    · exact r2
  · rcases hb with ⟨rfl, rfl⟩ | ⟨rfl, rfl⟩
    · exact r2
    · exact r1
set_option maxRecDepth 100000 in
set_option maxHeartbeats 8000000 in
theorem ck_spread (s : Sy) (hs : Ok s) (g : Nat) (E : List Eg) (w : World) (hN : NetAt w g s E) (hE : EOk E (nPl s) 22001) (hcl : Closes E) (hel : E.length ≤ 200000) (r : Rf) (hr : RefOk s r) :
    Calls Tryd.prog 98 #[.pointer (some ⟨g, 0, none⟩), .agg #[.int .i64 r.log, .int .i64 r.line]] w fun e w' => ∃ gw sb bb EA ec d b, e = .returned (.tuple #[.pointer (some ⟨gw, 0, none⟩), .slice none 0 0]) ∧ WavA w w' gw sb bb (nPl s) EA ec E d b ∧ Dist E (nPl s) (plc s r) 22001 d := by
  obtain ⟨FA, fc, EA, ec, hg, hF, hEA⟩ := hN
  have hnp := nPl_le hs
  have n1 := (New.refl w).alloc (.cells #[.int .i64 r.log, .int .i64 r.line] 53)
  have n2 := n1.alloc (.cells #[.slice none 0 0] 126)
  have r1 := (RowIs.new w 53 [.int .i64 r.log, .int .i64 r.line]).keep ((New.refl _).alloc (.cells #[.slice none 0 0] 126))
  have r2 := RowIs.new (w.alloc (.cells #[.int .i64 r.log, .int .i64 r.line] 53)) 126 [.slice none 0 0]
  have hsz : ((w.alloc (.cells #[.int .i64 r.log, .int .i64 r.line] 53)).alloc (.cells #[.slice none 0 0] 126)).heap.size = w.heap.size + 1 + 1 := by simp
  simp only [World.size_alloc] at r2
  have HR1 := Lib.hid r1
  have HR2 := Lib.hid r2
  have HN2 := Lib.hid n2
  have HG := Lib.hid hg
  have HF := Lib.hid hF
  have HEA := Lib.hid hEA
  have HE := Lib.hid hE
  have HCL := Lib.hid hcl
  have HRF := Lib.hid hr
  have HS := Lib.hid hs
  clear n1 n2 r1 r2 hg hF hEA hE hcl hr hs
  have hmk : ∀ w : World, (Instr.makeSlice 26 (.int .i64 (nPl s)) (.int .i64 (nPl s))).run Tryd.prog w = .ok (.slice (some ⟨w.heap.size, 0, none⟩) (nPl s) (nPl s)) (w.alloc (.cells (Array.replicate (nPl s) (.int .i64 0)) 3)) := fun w => make_row (bytes := 8) Tryd.underlying26 (by kernel_rfl) rfl (by decide) (nPl s) (by omega) w
  generalize hnp2 : nPl s = np at *
  have hmf : ∀ (fn : Fn) (first cap : Array Value) (w : World), (Instr.makeFunc fn first cap).run Tryd.prog w = .ok (.func fn first cap) w := fun _ _ _ _ => rfl
  go_enter_defers Tryd.func98, Tryd.ntmps98
  go_wp2_with fail
  generalize hW1 : (w.alloc (.cells #[.int .i64 r.log, .int .i64 r.line] 53)).alloc (.cells #[.slice none 0 0] 126) = W1 at *
  have HSD : Hid (∀ w', New W1 w' → w'.cell? ⟨g, 2, none⟩ = some (.slice EA E.length ec) ∧ w'.cell? ⟨g, 1, none⟩ = some (.int .i64 np)) := Lib.hid fun w' hn => ⟨((HG.out.keep HN2.out).keep hn).cell rfl, ((HG.out.keep HN2.out).keep hn).cell rfl⟩
  obtain ⟨RR, HRR⟩ : ∃ RR : Act → World → Prop, Hid (RR = fun a w' => ∃ gw sb bb c7 c8 c9 c10 c11 c12 c13 c14 c15 c16 c17 c18 c19 c20 c21 c22, a = { tmps := #[.pointer (some ⟨g, 0, none⟩), .agg #[.int .i64 r.log, .int .i64 r.line], undef, .pointer (some ⟨w.heap.size, 0, none⟩), .pointer (some ⟨gw, 0, none⟩), .pointer (some ⟨w.heap.size + 1, 0, none⟩), undef, c7, c8, c9, c10, c11, c12, c13, c14, c15, c16, c17, c18, c19, c20, c21, c22, undef, undef, undef, undef, undef, undef, undef, undef, undef, undef, undef, undef, undef, undef, undef, undef, undef, undef, undef, undef, undef, undef, undef, undef, undef, undef, undef, undef, undef, undef, undef, undef], defers := [] } ∧ SpW w w' gw sb bb s EA ec E r (fun _ => 0) (fun _ => 0)) := ⟨_, Lib.hid rfl⟩
  refine region_cut RR (by kernel_rfl) ?cut ?rest
  case cut =>
    refine wpAny_lastL (S := fun w' => w'.cell? ⟨g, 2, none⟩ = some (.slice EA E.length ec) ∧ w'.cell? ⟨g, 1, none⟩ = some (.int .i64 np)) rfl (by kernel_rfl) (by kernel_rfl) (by kernel_rfl) ?_
    simp only [List.dropLast, List.length_cons, List.length_nil, Nat.reduceAdd]
    change wpAnyH _ _ _ _ _ _ _ _ W1.drew
    have hS := HSD.out W1.drew (New.refl W1).drew
    have nD := (New.refl W1).drew
    refine wpAnyH_take (i := 0) (v := ?_) rfl (by kernel_rfl) (by kernel_rfl) (by kernel_rfl) (fun _ _ _ h => h) (Or.inl ⟨by rfl, fun w' hS' => ?_⟩) hS ?_
    rotate_left
    · obtain ⟨s0, s1⟩ := hS'
      go_simp
      try rfl
    try simp only [List.getElem_toArray, List.getElem_cons_zero, Act.put, List.setIfInBounds_toArray, List.set_cons_zero, List.set_cons_succ]
    refine wpAnyH_take (i := 1) (v := ?_) rfl (by kernel_rfl) (by kernel_rfl) (by kernel_rfl) (fun _ _ _ h => h) (Or.inl ⟨by rfl, fun w' hS' => ?_⟩) hS ?_
    rotate_left
    · obtain ⟨s0, s1⟩ := hS'
      go_simp
      try rfl
    try simp only [List.getElem_toArray, List.getElem_cons_zero, List.getElem_cons_succ, Act.put, List.setIfInBounds_toArray, List.set_cons_zero, List.set_cons_succ]
    refine wpAnyH_take (i := 2) (v := ?_) rfl (by kernel_rfl) (by kernel_rfl) (by kernel_rfl) (fun _ _ _ h => h) (Or.inl ⟨by rfl, fun w' hS' => ?_⟩) hS ?_
    rotate_left
    · obtain ⟨s0, s1⟩ := hS'
      go_simp
      try rfl
    try simp only [List.getElem_toArray, List.getElem_cons_zero, List.getElem_cons_succ, Act.put, List.setIfInBounds_toArray, List.set_cons_zero, List.set_cons_succ]
    refine wpAnyH_take (i := 3) (v := ?_) rfl (by kernel_rfl) (by kernel_rfl) (by kernel_rfl) (fun _ _ _ h => h) (Or.inl ⟨by rfl, fun w' hS' => ?_⟩) hS ?_
    rotate_left
    · obtain ⟨s0, s1⟩ := hS'
      go_simp
      try rfl
    try simp only [List.getElem_toArray, List.getElem_cons_zero, List.getElem_cons_succ, Act.put, List.setIfInBounds_toArray, List.set_cons_zero, List.set_cons_succ]
    refine wpAnyH_take (i := 4) (v := ?_) rfl (by kernel_rfl) (by kernel_rfl) (by kernel_rfl) (fun _ _ _ h => h) (Or.inl ⟨by rfl, fun w' hS' => ?_⟩) hS ?_
    rotate_left
    · obtain ⟨s0, s1⟩ := hS'
      go_simp
      try rfl
    try simp only [List.getElem_toArray, List.getElem_cons_zero, List.getElem_cons_succ, Act.put, List.setIfInBounds_toArray, List.set_cons_zero, List.set_cons_succ]
    refine wpAnyH_take (i := 5) (v := ?_) rfl (by kernel_rfl) (by kernel_rfl) (by kernel_rfl) (fun _ _ _ h => h) (Or.inl ⟨by rfl, fun w' hS' => ?_⟩) hS ?_
    rotate_left
    · obtain ⟨s0, s1⟩ := hS'
      go_simp
      try rfl
    try simp only [List.getElem_toArray, List.getElem_cons_zero, List.getElem_cons_succ, Act.put, List.setIfInBounds_toArray, List.set_cons_zero, List.set_cons_succ]
    refine wpAnyH_take (i := 6) (v := ?_) rfl (by kernel_rfl) (by kernel_rfl) (by kernel_rfl) (fun _ _ _ h => h) (Or.inl ⟨by rfl, fun w' hS' => ?_⟩) hS ?_
    rotate_left
    · obtain ⟨s0, s1⟩ := hS'
      go_simp
      try rfl
    try simp only [List.getElem_toArray, List.getElem_cons_zero, List.getElem_cons_succ, Act.put, List.setIfInBounds_toArray, List.set_cons_zero, List.set_cons_succ]
    refine wpAnyH_take (i := 7) (v := ?_) rfl (by kernel_rfl) (by kernel_rfl) (by kernel_rfl) (fun _ _ _ h => h) (Or.inl ⟨by rfl, fun w' hS' => ?_⟩) hS ?_
    rotate_left
    · obtain ⟨s0, s1⟩ := hS'
      go_simp
      try rfl
    try simp only [List.getElem_toArray, List.getElem_cons_zero, List.getElem_cons_succ, Act.put, List.setIfInBounds_toArray, List.set_cons_zero, List.set_cons_succ]
    refine wpAnyH_take (i := 9) (v := ?_) rfl (by kernel_rfl) (by kernel_rfl) (by kernel_rfl) (fun _ _ _ h => h) (Or.inl ⟨by rfl, fun w' hS' => ?_⟩) hS ?_
    rotate_left
    · obtain ⟨s0, s1⟩ := hS'
      go_simp
      try rfl
    try simp only [List.getElem_toArray, List.getElem_cons_zero, List.getElem_cons_succ, Act.put, List.setIfInBounds_toArray, List.set_cons_zero, List.set_cons_succ]
    refine wpAnyH_take (i := 10) (v := ?_) rfl (by kernel_rfl) (by kernel_rfl) (by kernel_rfl) (fun _ _ _ h => h) (Or.inl ⟨by rfl, fun w' hS' => ?_⟩) hS ?_
    rotate_left
    · obtain ⟨s0, s1⟩ := hS'
      go_simp
      try rfl
    try simp only [List.getElem_toArray, List.getElem_cons_zero, List.getElem_cons_succ, Act.put, List.setIfInBounds_toArray, List.set_cons_zero, List.set_cons_succ]
    refine wpAnyH_take (i := 11) (v := ?_) rfl (by kernel_rfl) (by kernel_rfl) (by kernel_rfl) (fun _ _ _ h => h) (Or.inl ⟨by rfl, fun w' hS' => ?_⟩) hS ?_
    rotate_left
    · obtain ⟨s0, s1⟩ := hS'
      go_simp
      try rfl
    try simp only [List.getElem_toArray, List.getElem_cons_zero, List.getElem_cons_succ, Act.put, List.setIfInBounds_toArray, List.set_cons_zero, List.set_cons_succ]
    refine wpAnyH_take (i := 12) (v := ?_) rfl (by kernel_rfl) (by kernel_rfl) (by kernel_rfl) (fun _ _ _ h => h) (Or.inl ⟨by rfl, fun w' hS' => ?_⟩) hS ?_
    rotate_left
    · obtain ⟨s0, s1⟩ := hS'
      go_simp
      try rfl
    try simp only [List.getElem_toArray, List.getElem_cons_zero, List.getElem_cons_succ, Act.put, List.setIfInBounds_toArray, List.set_cons_zero, List.set_cons_succ]
    clear hS
    have HR1D := Lib.hid HR1.out.drew
    have HR2D := Lib.hid HR2.out.drew
    have ND := Lib.hid nD
    clear nD
    generalize W1.drew = W3 at *
    refine wpAnyH_ready (rs := [8, 13]) (by kernel_rfl) (by simp) ?_
    refine AllReadyH.cons rfl (fun K hK => ?_) (AllReadyH.cons rfl (fun K hK => ?_) AllReadyH.nil)
    · go_simp
      have m1 := ND.out.trans ((New.refl W3).alloc (.cells (Array.replicate np (.int .i64 0)) 3))
      refine hK.out _ _ (HSD.out _ m1) (fun hS => ?_)
      clear hK K hS
      try simp only [List.getElem_toArray, List.getElem_cons_zero, List.getElem_cons_succ, Act.put, List.setIfInBounds_toArray, List.set_cons_zero, List.set_cons_succ]
      refine wpAnyH_ready (rs := [13]) (by kernel_rfl) (by simp) ?_
      refine AllReadyH.cons rfl (fun K hK => ?_) AllReadyH.nil
      go_simp
      have m2 := m1.trans ((New.refl _).alloc (.cells (Array.replicate np (.int .i64 0)) 3))
      refine hK.out _ _ (HSD.out _ m2) (fun hS => ?_)
      clear hK K
      try simp only [List.getElem_toArray, List.getElem_cons_zero, List.getElem_cons_succ, Act.put, List.setIfInBounds_toArray, List.set_cons_zero, List.set_cons_succ]
      refine wpAnyH_take (i := 14) (v := ?_) rfl (by kernel_rfl) (by kernel_rfl) (by kernel_rfl) (fun _ _ _ h => h) (Or.inl ⟨by rfl, fun w' hS' => ?_⟩) hS ?_
      rotate_left
      · obtain ⟨s0, s1⟩ := hS'
        go_simp
        try rfl
      try simp only [List.getElem_toArray, List.getElem_cons_zero, List.getElem_cons_succ, Act.put, List.setIfInBounds_toArray, List.set_cons_zero, List.set_cons_succ]
      clear hS
      refine wpAnyH_ready (rs := [15]) (by kernel_rfl) (by simp) ?_
      refine AllReadyH.cons rfl (fun K hK => ?_) AllReadyH.nil
      go_simp
      refine hK.out _ _ (HSD.out _ (m2.trans ((New.refl _).alloc _))) (fun hS => ?_)
      clear hK K hS
      try simp only [List.getElem_toArray, List.getElem_cons_zero, List.getElem_cons_succ, Act.put, List.setIfInBounds_toArray, List.set_cons_zero, List.set_cons_succ]
      refine wpAnyH_done (by kernel_rfl) ?_ _
      unfold LastQ
      go_simp
      rw [HRR.out]
      refine ⟨W3.heap.size + 1 + 1, W3.heap.size, W3.heap.size + 1, _, _, _, _, _, _, _, _, _, _, _, _, _, _, _, _, rfl, ?_⟩
      exact spW_mk np hnp2 HEA.out (HN2.out.trans ND.out) HR1D.out HR2D.out _ _ (by simp)
    · go_simp
      have m1 := ND.out.trans ((New.refl W3).alloc (.cells (Array.replicate np (.int .i64 0)) 3))
      refine hK.out _ _ (HSD.out _ m1) (fun hS => ?_)
      clear hK K hS
      try simp only [List.getElem_toArray, List.getElem_cons_zero, List.getElem_cons_succ, Act.put, List.setIfInBounds_toArray, List.set_cons_zero, List.set_cons_succ]
      refine wpAnyH_ready (rs := [8]) (by kernel_rfl) (by simp) ?_
      refine AllReadyH.cons rfl (fun K hK => ?_) AllReadyH.nil
      go_simp
      have m2 := m1.trans ((New.refl _).alloc (.cells (Array.replicate np (.int .i64 0)) 3))
      refine hK.out _ _ (HSD.out _ m2) (fun hS => ?_)
      clear hK K
      try simp only [List.getElem_toArray, List.getElem_cons_zero, List.getElem_cons_succ, Act.put, List.setIfInBounds_toArray, List.set_cons_zero, List.set_cons_succ]
      refine wpAnyH_take (i := 14) (v := ?_) rfl (by kernel_rfl) (by kernel_rfl) (by kernel_rfl) (fun _ _ _ h => h) (Or.inl ⟨by rfl, fun w' hS' => ?_⟩) hS ?_
      rotate_left
      · obtain ⟨s0, s1⟩ := hS'
        go_simp
        try rfl
      try simp only [List.getElem_toArray, List.getElem_cons_zero, List.getElem_cons_succ, Act.put, List.setIfInBounds_toArray, List.set_cons_zero, List.set_cons_succ]
      clear hS
      refine wpAnyH_ready (rs := [15]) (by kernel_rfl) (by simp) ?_
      refine AllReadyH.cons rfl (fun K hK => ?_) AllReadyH.nil
      go_simp
      refine hK.out _ _ (HSD.out _ (m2.trans ((New.refl _).alloc _))) (fun hS => ?_)
      clear hK K hS
      try simp only [List.getElem_toArray, List.getElem_cons_zero, List.getElem_cons_succ, Act.put, List.setIfInBounds_toArray, List.set_cons_zero, List.set_cons_succ]
      refine wpAnyH_done (by kernel_rfl) ?_ _
      unfold LastQ
      go_simp
      rw [HRR.out]
      refine ⟨W3.heap.size + 1 + 1, W3.heap.size + 1, W3.heap.size, _, _, _, _, _, _, _, _, _, _, _, _, _, _, _, _, rfl, ?_⟩
      exact spW_mk np hnp2 HEA.out (HN2.out.trans ND.out) HR1D.out HR2D.out _ _ (by simp)
  case rest =>
    intro a w'
    rw [HRR.out]
    rintro ⟨gw, sb, bb, c7, c8, c9, c10, c11, c12, c13, c14, c15, c16, c17, c18, c19, c20, c21, c22, rfl, hw⟩
    clear HRR RR HSD HR1 HR2
    have HW := Lib.hid hw
    clear hw
    have z0 := (HG.out.keep HW.out.wav.new).cell (i := 1) rfl
    go_wp2_with fail
    clear z0
    go_loopw [27] (fun i wr => ∃ k : Nat, k ≤ np ∧ i = .int .i64 k ∧ SpW w wr gw sb bb s EA ec E r (fil k NB) (fil k (-1))) (fun i _ => np - (intOf i).toNat)
    case atStart => exact ⟨0, Nat.zero_le _, rfl, by rw [fil_zero, fil_zero]; exact HW.out⟩
    case round =>
      obtain ⟨k, hk, rfl, hx⟩ := hrel
      clear HW
      have HX := Lib.hid hx
      by_cases hlt : k < np
      · subst hnp2
        have z1 := hx.wav.row.cell (i := 1) rfl
        have z2 := hx.wav.sums.cell (fnRow_get (f := fil k NB) hlt)
        have zf := hx.wav.sums.free k
        have HX1 := Lib.hid (HX.out.setS hlt NB)
        have y1 := HX1.out.wav.row.cell (i := 2) rfl
        have y2 := HX1.out.wav.bys.cell (fnRow_get (f := fil k (-1)) hlt)
        have yf := HX1.out.wav.bys.free k
        have HX2 := Lib.hid (HX1.out.setB hlt (-1))
        have i1 : (k : Int) < (nPl s : Int) := by omega
        have hNB : NB = 1099511627776 := rfl
        rw [hNB] at y1 y2 yf
        clear hx hNB
        go_wp2_with fail
        go_roundw
        case rel => exact ⟨k + 1, by omega, rfl, by rw [← fil_succ, ← fil_succ]; exact HX2.out⟩
        case measure => simp [intOf]; omega
      · obtain rfl : k = np := by omega
        have HX1 : Hid (SpW w wr gw sb bb s EA ec E r (fun _ => NB) (fun _ => -1)) := Lib.hid ⟨hx.wav.congr (fun i hi => by rw [hnp2] at hi; simp [fil, hi]) (fun i hi => by rw [hnp2] at hi; simp [fil, hi]), hx.ref, hx.lop, hx.ne⟩
        clear hx HX
        go_wp2_with fail
        have HSD : Hid (∀ w', New wr w' → w'.cell? ⟨gw, 1, none⟩ = some (.slice (some ⟨sb, 0, none⟩) k k) ∧ w'.cell? ⟨w.heap.size, 0, none⟩ = some (.int .i64 r.log) ∧ w'.cell? ⟨w.heap.size, 1, none⟩ = some (.int .i64 r.line)) := Lib.hid fun w' hn => ⟨by
          have := (HX1.out.keep hn).wav.row.cell (i := 1) rfl
          rwa [hnp2] at this, (HX1.out.keep hn).ref.cell rfl, (HX1.out.keep hn).ref.cell rfl⟩
        have HPL : Hid (∀ w', New wr w' → Calls Tryd.prog 110 #[.pointer (some ⟨g, 0, none⟩), .agg #[.int .i64 r.log, .int .i64 r.line]] w' fun e w'' => e = .returned (.int .i64 (plc s r)) ∧ New w' w'') := Lib.hid fun w' hn =>
          ck_place s HS.out r HRF.out g fc FA w' ((HG.out.keep (HX1.out.keep hn).wav.new).cell rfl) (HF.out.keep (HX1.out.keep hn).wav.new)
        have hpl : plc s r < k := by have := plc_lt HRF.out; omega
        have i1 : (plc s r : Int) < (k : Int) := by omega
        refine region_plain (by kernel_rfl) (wpAny_lastL (S := fun w' => w'.cell? ⟨gw, 1, none⟩ = some (.slice (some ⟨sb, 0, none⟩) k k) ∧ w'.cell? ⟨w.heap.size, 0, none⟩ = some (.int .i64 r.log) ∧ w'.cell? ⟨w.heap.size, 1, none⟩ = some (.int .i64 r.line)) rfl (by kernel_rfl) (by kernel_rfl) (by kernel_rfl) ?_)
        simp only [List.dropLast, List.length_cons, List.length_nil, Nat.reduceAdd]
        change wpAnyH _ _ _ _ _ _ _ _ wr.drew
        have hS := HSD.out wr.drew (New.refl wr).drew
        refine wpAnyH_take (i := 0) (v := ?_) rfl (by kernel_rfl) (by kernel_rfl) (by kernel_rfl) (fun _ _ _ h => h) (Or.inl ⟨by rfl, fun w' hS' => ?_⟩) hS ?_
        rotate_left
        · obtain ⟨s0, s1, s2⟩ := hS'
          go_simp
          try rfl
        try simp only [List.getElem_toArray, List.getElem_cons_zero, Act.put, List.setIfInBounds_toArray, List.set_cons_zero, List.set_cons_succ]
        refine wpAnyH_take (i := 1) (v := ?_) rfl (by kernel_rfl) (by kernel_rfl) (by kernel_rfl) (fun _ _ _ h => h) (Or.inl ⟨by rfl, fun w' hS' => ?_⟩) hS ?_
        rotate_left
        · obtain ⟨s0, s1, s2⟩ := hS'
          go_simp
          try rfl
        try simp only [List.getElem_toArray, List.getElem_cons_zero, List.getElem_cons_succ, Act.put, List.setIfInBounds_toArray, List.set_cons_zero, List.set_cons_succ]
        refine wpAnyH_take (i := 2) (v := ?_) rfl (by kernel_rfl) (by kernel_rfl) (by kernel_rfl) (fun _ _ _ h => h) (Or.inl ⟨by rfl, fun w' hS' => ?_⟩) hS ?_
        rotate_left
        · obtain ⟨s0, s1, s2⟩ := hS'
          go_simp
          try rfl
        try simp only [List.getElem_toArray, List.getElem_cons_zero, List.getElem_cons_succ, Act.put, List.setIfInBounds_toArray, List.set_cons_zero, List.set_cons_succ]
        refine wpAnyH_take (i := 3) (v := ?_) rfl (by kernel_rfl) (by kernel_rfl) (by kernel_rfl) (fun _ _ _ h => h) (Or.inl ⟨by rfl, fun w' hS' => ?_⟩) hS ?_
        rotate_left
        · obtain ⟨s0, s1, s2⟩ := hS'
          go_simp
          try rfl
        try simp only [List.getElem_toArray, List.getElem_cons_zero, List.getElem_cons_succ, Act.put, List.setIfInBounds_toArray, List.set_cons_zero, List.set_cons_succ]
        refine wpAnyH_take (i := 4) (v := ?_) rfl (by kernel_rfl) (by kernel_rfl) (by kernel_rfl) (fun _ _ _ h => h) (Or.inl ⟨by rfl, fun w' hS' => ?_⟩) hS ?_
        rotate_left
        · obtain ⟨s0, s1, s2⟩ := hS'
          go_simp
          try rfl
        try simp only [List.getElem_toArray, List.getElem_cons_zero, List.getElem_cons_succ, Act.put, List.setIfInBounds_toArray, List.set_cons_zero, List.set_cons_succ]
        refine wpAnyH_take (i := 5) (v := ?_) rfl (by kernel_rfl) (by kernel_rfl) (by kernel_rfl) (fun _ _ _ h => h) (Or.inl ⟨by rfl, fun w' hS' => ?_⟩) hS ?_
        rotate_left
        · obtain ⟨s0, s1, s2⟩ := hS'
          go_simp
          try rfl
        try simp only [List.getElem_toArray, List.getElem_cons_zero, List.getElem_cons_succ, Act.put, List.setIfInBounds_toArray, List.set_cons_zero, List.set_cons_succ]
        clear hS
        refine wpAnyH_ready (rs := [6]) (by kernel_rfl) (by simp) ?_
        refine AllReadyH.cons rfl (fun K hK => ?_) AllReadyH.nil
        go_simp
        refine (HPL.out _ (New.refl wr).drew).mono ?_
        rintro e w1 ⟨rfl, m1⟩
        have m2 := ((New.refl wr).drew).trans m1
        have HX2 := Lib.hid (HX1.out.keep m2)
        refine hK.out _ _ (HSD.out w1 m2) (fun hS => ?_)
        clear hK K
        try simp only [List.getElem_toArray, List.getElem_cons_zero, List.getElem_cons_succ, Act.put, List.setIfInBounds_toArray, List.set_cons_zero, List.set_cons_succ]
        refine wpAnyH_take (i := 7) (v := ?_) rfl (by kernel_rfl) (by kernel_rfl) (by kernel_rfl) (fun _ _ _ h => h) (Or.inl ⟨by rfl, fun w' hS' => ?_⟩) hS ?_
        rotate_left
        · obtain ⟨s0, s1, s2⟩ := hS'
          go_simp
          try rfl
        try simp only [List.getElem_toArray, List.getElem_cons_zero, List.getElem_cons_succ, Act.put, List.setIfInBounds_toArray, List.set_cons_zero, List.set_cons_succ]
        refine wpAnyH_done (by kernel_rfl) ?_ _
        clear hS HSD HPL m1 m2 HX1
        have HX3 := Lib.hid (HX2.out.setS (i := plc s r) (by omega) 0)
        have z1 := HX2.out.wav.sums.cell (fnRow_get (f := fun _ => NB) (i := plc s r) (by omega))
        have zf := HX2.out.wav.sums.free (plc s r)
        unfold LastQ
        go_simp
        have HRX : Hid (∀ w4, New (w1.setCell ⟨sb, plc s r, none⟩ (.int .i64 0)) w4 → Calls Tryd.prog 121 #[.pointer (some ⟨gw, 0, none⟩)] w4 fun e w' => e = .returned (.tuple #[]) ∧ ∃ d' b', WavA w w' gw sb bb (nPl s) EA ec E d' b' ∧ WI E (nPl s) (plc s r) d' b' ∧ Calm E d' ∧ KeepBut sb bb w4 w') := Lib.hid fun w4 m4 => by
          rw [← hnp2] at hnp
          have HE2 := HE.out
          rw [← hnp2] at HE2
          exact ck_relax (HX3.out.keep m4).wav HE2 HCL.out (by omega) hel (WI.init E (nPl s) (plc s r))
        clear z1 zf
        unfold NormQ
        dsimp only [Exit.then]
        have hne : w.heap.size + 1 ≠ sb ∧ w.heap.size + 1 ≠ bb := by have := HX3.out.ne; omega
        have HLP : Hid (∀ w5, KeepBut sb bb (w1.setCell ⟨sb, plc s r, none⟩ (.int .i64 0)) w5 → RowIs w5 (w.heap.size + 1) 126 [.slice none 0 0]) := Lib.hid fun w5 k5 => k5.row HX3.out.lop hne.1 hne.2
        go_wp2_with (go_at_call 121; refine (HRX.out _ (New.refl _)).mono ?_; rintro e w5 ⟨rfl, d', b', v5, i5, c5, k5⟩; have z5 := (HLP.out w5 k5).cell (i := 0) rfl; have z6 := (HLP.out w5 k5).free 0)
        have L5 : RowIs w5 (w.heap.size + 1) 126 [.slice none 0 0] := HLP.out w5 k5
        have L6 : RowIs (w5.setCell ⟨w.heap.size + 1, 0, none⟩ (.slice none 0 0)) (w.heap.size + 1) 126 [.slice none 0 0] := L5.put 0 (.slice none 0 0)
        have L7 : RowIs ((w5.setCell ⟨w.heap.size + 1, 0, none⟩ (.slice none 0 0)).setCell ⟨w.heap.size + 1, 0, none⟩ (.slice none 0 0)) (w.heap.size + 1) 126 [.slice none 0 0] := L6.put 0 (.slice none 0 0)
        have hgw := HX3.out.ne.1
        refine leaves_cons (f := 120) (args := #[.pointer (some ⟨w.heap.size + 1, 0, none⟩)]) (by simp) (by simp [go_sem]) ?_
        refine (catch_idle ⟨w.heap.size + 1, 0, none⟩ (.slice none 0 0) _ (L6.cell rfl) (L6.free 0)).mono ?_
        rintro e u' w'' ⟨rfl, rfl, rfl⟩
        have hc7 := L7.cell (i := 0) rfl
        have v7 := (v5.other (p := w.heap.size + 1) (by omega) (by omega) hne.1 hne.2 0 (.slice none 0 0)).other (p := w.heap.size + 1) (by omega) (by omega) hne.1 hne.2 0 (.slice none 0 0)
        have HE2 := HE.out
        rw [← hnp2] at HE2
        have hd := (i5.dist (by decide) HE2 (by omega) c5).1
        rw [hnp2] at v7 hd
        generalize (w5.setCell ⟨w.heap.size + 1, 0, none⟩ (.slice none 0 0)).setCell ⟨w.heap.size + 1, 0, none⟩ (.slice none 0 0) = w7 at *
        refine ⟨.tuple #[.pointer (some ⟨gw, 0, none⟩), .slice none 0 0], ?_, ⟨gw, sb, bb, EA, ec, d', b', rfl, v7, hd⟩⟩
        simp [results, Tryd.results98, go_sem, hc7]
end Go.Proofs.YtodmbcoobjcooaaDoor
