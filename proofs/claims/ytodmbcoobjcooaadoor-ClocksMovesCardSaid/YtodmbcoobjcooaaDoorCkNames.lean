/-
  Maps from refs to numbers. Condition: the refs' numbers are small.
  The knots of the program: name. Condition: the knots lie in memory.
  The knots of the program: tighten. Condition: the knots lie in memory.
  The knots of the program: add. Condition: the knots lie in memory.
-/
import Derived.Test.YtodmbcoobjcooaaDoorCkSpanT
import Derived.Maps.OwnSet
import Derived.Maps.Keyed
import Derived.DeepKeys4
import Derived.Maps.Views
import Derived.Test.YtodmbcoobjcooaaDoorCkNewNet
import Derived.Deep.AppendLies
namespace Go.Proofs.YtodmbcoobjcooaaDoor
open Go Go.RowKit Go.Shelf
def rfA (r : Rf) : Value := .agg #[.int .i64 r.log, .int .i64 r.line]
theorem rf_wide : (match Tryd.prog.underlying 53 with | some (.array _ _) | some (.struct _) => true | _ => false) = true := by rw [Tryd.underlying53]
theorem rf_laid : laidOutB Tryd.prog = true := by kernel_rfl
theorem rf_row : (53 : TypeId) < Tryd.prog.types.size := of_decide_eq_true (by kernel_rfl)
theorem rf_at : Tryd.prog.keyTypeAt 2 53 = true := by kernel_rfl
set_option maxRecDepth 100000 in
theorem rf_law : Maps.Keyed Tryd.prog 53 := Maps.Keyed.of_law (deep_law_laid rf_laid (m := 2) (by omega) rf_row rf_at rf_wide)
def rfL (r : Rf) : Lit := .string (keyBytes [.int .i64 r.log, .int .i64 r.line])
/-- The numbers of a ref are small. -/
def Sml (r : Rf) : Prop := (-1 ≤ r.log ∧ r.log ≤ 1000000) ∧ 0 ≤ r.line ∧ r.line ≤ 1000000
theorem cells_rf : Tryd.prog.cellsOf 53 = 2 := by kernel_rfl
theorem cells_i : Tryd.prog.cellsOf 3 = 1 := by kernel_rfl
theorem rf_kt : Tryd.prog.keyType 53 = true := by kernel_rfl
theorem types_size : ∃ m, Tryd.prog.types.size = m + 1 := ⟨Tryd.prog.types.size - 1, by have h : 0 < Tryd.prog.types.size := of_decide_eq_true (by kernel_rfl); omega⟩
theorem rf_reads (r : Rf) (h : Sml r) : keyOf Tryd.prog 53 (rfA r) = some (rfL r) := by
  obtain ⟨⟨h1, h2⟩, h3, h4⟩ := h
  have w1 : (Lit.int .i64 r.log).wf = true := WalkArith.wf_i64 (by omega)
  have w2 : (Lit.int .i64 r.line).wf = true := WalkArith.wf_i64 (by omega)
  obtain ⟨m, hm⟩ := types_size
  unfold keyOf rfA rfL
  simp only [Tryd.underlying53]
  rw [if_pos (by simp [rf_kt, Value.formed, Tryd.underlying53, cells_rf]), hm]
  unfold Program.keyLits
  simp only [Tryd.underlying53, Value.cells]
  rw [if_pos ⟨by rw [cells_rf]; rfl, by decide +kernel⟩]
  simp [cells_i, Program.keyLits, Tryd.underlying3, w1, w2]
theorem rf_inj {r q : Rf} (h : Sml r) (h' : Sml q) (e : rfL r = rfL q) : r = q := by
  have h1 := rf_reads r h
  have h2 := rf_reads q h'
  rw [e] at h1
  have := Maps.Keyed.inj rf_law h1 h2
  simp [rfA] at this
  cases r; cases q; simp_all
theorem zero_i (w : World) : (zeroValue 3).run Tryd.prog w = .ok (.int .i64 0) w := by kernel_rfl
/-- Block b maps each of some refs to its place among them. -/
def IdxM (w : World) (b n : Nat) (l : List Rf) : Prop :=
  ∃ D : DataW Unit, w.ownsMap Tryd.prog 53 (plainElem Tryd.prog 3) b n D ∧ Maps.IsMap D ∧ ∀ r, Sml r → Maps.has D (rfL r) = decide (r ∈ l) ∧ (r ∈ l → D.atKey (rfL r) (.lit (.int .i64 0)) = .lit (.int .i64 (l.idxOf r)))
theorem IdxM.keep {w w' : World} {b n : Nat} {l : List Rf} (h : IdxM w b n l) (k : New w w') : IdxM w' b n l := by
  obtain ⟨D, h1, h2, h3⟩ := h
  exact ⟨D, h1.kept (grown_of k none) (by simp), h2, h3⟩
theorem IdxM.made (w : World) : IdxM (w.alloc (.map #[] 0)) w.heap.size 0 [] :=
  ⟨.map [], World.ownsMap_made w _ _ _, Maps.isMap_empty, fun r _ => ⟨by simp [Maps.has_eq], fun h => absurd h (by simp)⟩⟩
theorem IdxM.look {w : World} {b n : Nat} {l : List Rf} (h : IdxM w b n l) {r : Rf} (hr : Sml r) : ∃ c : Int, (Instr.lookup 158 (.map (some b)) (rfA r) true).run Tryd.prog w = .ok (.tuple #[.int .i64 c, .bool (decide (r ∈ l))]) w := by
  obtain ⟨D, h1, h2, h3⟩ := h
  obtain ⟨v, ps, hrun, hv⟩ := h1.look_ok rf_law Tryd.underlying158 (zero_i w) (plainElem_int Tryd.underlying3 (by decide)) (rf_reads r hr)
  obtain ⟨c, rfl, _, _⟩ := plainElem_int_inv Tryd.underlying3 hv
  exact ⟨c, by rw [hrun, (h3 r hr).1]⟩
theorem IdxM.get {w : World} {b n : Nat} {l : List Rf} (h : IdxM w b n l) {r : Rf} (hr : Sml r) (hm : r ∈ l) : (Instr.lookup 158 (.map (some b)) (rfA r) false).run Tryd.prog w = .ok (.int .i64 (l.idxOf r)) w := by
  obtain ⟨D, h1, h2, h3⟩ := h
  obtain ⟨c, hrun, hat, _⟩ := h1.lookup_int rf_law Tryd.underlying158 Tryd.underlying3 (zero_i w) (rf_reads r hr)
  have := (h3 r hr).2 hm
  have e := hat.symm.trans this
  have e2 : c = l.idxOf r := by cases e; rfl
  rw [hrun, e2]
theorem IdxM.put {w : World} {b n : Nat} {l : List Rf} (h : IdxM w b n l) {r : Rf} (hr : Sml r) (hm : r ∉ l) (hn : n < maxLen) (hl : l.length ≤ 1000000) :
    ∃ w', (Instr.mapUpdate 158 (.map (some b)) (rfA r) (.int .i64 l.length)).run Tryd.prog w = .ok () w' ∧ IdxM w' b (n + 1) (l ++ [r]) ∧ w.grownBy w' (some b) := by
  obtain ⟨D, h1, h2, h3⟩ := h
  obtain ⟨w', hrun, ho, hg⟩ := h1.update rf_law Tryd.underlying158 hn (rf_reads r hr) (plainElem_int Tryd.underlying3 (a := l.length) (WalkArith.wf_i64 (by omega)))
  refine ⟨w', hrun, ⟨_, ho, h2.put _ _, fun q hq => ?_⟩, hg⟩
  by_cases e : q = r
  · subst e
    refine ⟨by rw [Maps.has_put_same h2 (show WideAt.IsKeyLit (rfL q) from trivial)]; simp, fun _ => ?_⟩
    rw [Maps.atKey_put_same h2 (show WideAt.IsKeyLit (rfL q) from trivial), List.idxOf_append, if_neg hm]
    simp
  · have hne : rfL q ≠ rfL r := fun e2 => e (rf_inj hq hr e2)
    obtain ⟨a1, a2⟩ := h3 q hq
    refine ⟨by rw [Maps.has_put_other hne, a1]; simp [e], fun hm2 => ?_⟩
    have hm3 : q ∈ l := by
      rcases List.mem_append.1 hm2 with h | h
      · exact h
      · exact absurd (by simpa using h) e
    rw [Maps.atKey_put_other hne, a2 hm3, List.idxOf_append, if_pos hm3]
end Go.Proofs.YtodmbcoobjcooaaDoor

namespace Go.Proofs.YtodmbcoobjcooaaDoor
open Go Go.RowKit Go.Shelf
attribute [local go_sem] Oper.semAt_some
theorem info_rf : (Tryd.prog.info? 53).map (fun i => (i.zero, i.size, i.bytes)) = some (some (.agg #[.int .i64 0, .int .i64 0]), 2, 16) := by kernel_rfl
theorem under_rfs : Tryd.prog.underlying 116 = some (.slice 53) := by kernel_rfl
def rfCs (r : Rf) : List Value := [.int .i64 r.log, .int .i64 r.line]
/-- One more line, unless it is there. -/
def addR (l : List Rf) (r : Rf) : List Rf := if r ∈ l then l else l ++ [r]
theorem IdxM.block {w w' : World} {b n : Nat} {l : List Rf} (h : IdxM w b n l) (hb : w'.heap[b]? = w.heap[b]?) : IdxM w' b n l := by
  obtain ⟨D, ⟨es, clock, h1, h2⟩, h3⟩ := h
  exact ⟨D, ⟨es, clock, hb.trans h1, h2⟩, h3⟩
theorem IdxM.at {w : World} {b n : Nat} {l : List Rf} (h : IdxM w b n l) : ∃ es clock, w.heap[b]? = some (.map es clock) := by
  obtain ⟨D, ⟨es, clock, h1, _⟩, _⟩ := h
  exact ⟨es, clock, h1⟩
theorem IdxM.looks {w : World} {b n : Nat} {l : List Rf} (h : IdxM w b n l) {r : Rf} (hr : Sml r) : ∃ c : Int, ∀ w', New w w' → (Instr.lookup 158 (.map (some b)) (rfA r) true).run Tryd.prog w' = .ok (.tuple #[.int .i64 c, .bool (decide (r ∈ l))]) w' := by
  obtain ⟨D, h1, h2, h3⟩ := h
  have key : ∀ w', New w w' → ∃ c : Int, (Instr.lookup 158 (.map (some b)) (rfA r) true).run Tryd.prog w' = .ok (.tuple #[.int .i64 c, .bool (decide (r ∈ l))]) w' ∧ D.atKey (rfL r) (.lit (.int .i64 0)) = .lit (.int .i64 c) := fun w' k => by
    have h1' := h1.kept (grown_of k none) (by simp)
    obtain ⟨v, ps, hrun, hv⟩ := h1'.look_ok rf_law Tryd.underlying158 (zero_i w') (plainElem_int Tryd.underlying3 (by decide)) (rf_reads r hr)
    obtain ⟨c, rfl, hc, _⟩ := plainElem_int_inv Tryd.underlying3 hv
    simp only [Prod.mk.injEq] at hc
    exact ⟨c, by rw [hrun, (h3 r hr).1], hc.1⟩
  obtain ⟨c, _, hc⟩ := key w (New.refl w)
  refine ⟨c, fun w' k => ?_⟩
  obtain ⟨c', hrun, hc'⟩ := key w' k
  have e : c' = c := by have := hc'.symm.trans hc; cases this; rfl
  rw [hrun, e]
/-- The knots, while their lines are named. -/
structure KnI (w0 W : World) (g b : Nat) (win : Int) (l : List Rf) : Prop where
  new : New w0 W
  hg : w0.heap.size ≤ g
  hb : w0.heap.size ≤ b
  lines : ∃ LA lc, RowIs W g 160 [.int .i64 win, .slice LA l.length lc, .map (some b), .slice none 0 0] ∧ W.ownsRow w0.heap.size 53 2 (.slice LA l.length lc) l.length (l.flatMap rfCs)
  idx : IdxM W b l.length l
theorem KnI.keep {w0 W W' : World} {g b : Nat} {win : Int} {l : List Rf} (h : KnI w0 W g b win l) (k : New W W') : KnI w0 W' g b win l := by
  obtain ⟨LA, lc, h1, h2⟩ := h.lines
  exact ⟨h.new.trans k, h.hg, h.hb, ⟨LA, lc, h1.keep k, owns_keep h2 k⟩, h.idx.keep k⟩
/-- The map is written. -/
theorem KnI.mapped {w0 W W' : World} {g b : Nat} {win : Int} {l : List Rf} (h : KnI w0 W g b win l) (hg : W.grownBy W' (some b)) {LA : Option Addr} {lc : Nat} (h1 : RowIs W g 160 [.int .i64 win, .slice LA l.length lc, .map (some b), .slice none 0 0]) (h2 : W.ownsRow w0.heap.size 53 2 (.slice LA l.length lc) l.length (l.flatMap rfCs)) :
    New w0 W' ∧ RowIs W' g 160 [.int .i64 win, .slice LA l.length lc, .map (some b), .slice none 0 0] ∧ W'.ownsRow w0.heap.size 53 2 (.slice LA l.length lc) l.length (l.flatMap rfCs) := by
  obtain ⟨es, clock, hb⟩ := h.idx.at
  refine ⟨Below.grown h.new hg h.new.size (fun k e => by cases e; exact h.hb), h1.grown hg (fun e => ?_), h2.kept hg ?_⟩
  · have e2 : b = g := by cases e; rfl
    unfold RowIs at h1
    rw [← e2, hb] at h1
    cases h1
  · rcases h2.2 with ⟨e, _⟩ | ⟨g', cap, cur, e, _, hh, _⟩
    · rw [e]; exact .inl rfl
    · rw [e]
      refine .inr fun e2 => ?_
      have e3 : g' = b := by simpa [Value.ownBlock] using e2
      rw [e3, hb] at hh
      cases hh
theorem owns_lt {w : World} {b : Nat} {e : TypeId} {size : Nat} {v : Value} {n : Nat} {xs : List Value} (h : w.ownsRow b e size v n xs) : v.ownBlock ≠ some w.heap.size := fun e2 => by
  rcases h.2 with ⟨e, _⟩ | ⟨g', cap, cur, e, _, hh, _⟩
  · rw [e] at e2; simp [Value.ownBlock] at e2
  · rw [e] at e2
    have e3 : g' = w.heap.size := by simpa [Value.ownBlock] using e2
    have := (Array.getElem?_eq_some_iff.1 hh).1
    omega
set_option maxRecDepth 100000 in
set_option maxHeartbeats 8000000 in
theorem ck_name (w0 W : World) (g b : Nat) (win : Int) (l : List Rf) (h : KnI w0 W g b win l) (r : Rf) (hr : Sml r) (hl : l.length ≤ 10000) :
    Calls Tryd.prog 122 #[.pointer (some ⟨g, 0, none⟩), .agg #[.int .i64 r.log, .int .i64 r.line]] W fun e w' => e = .returned (.tuple #[]) ∧ KnI w0 w' g b win (addR l r) ∧ ∀ p e cs, RowIs W p e cs → p ≠ g → e ≠ 53 → RowIs w' p e cs := by
  have n1 := (New.refl W).alloc (.cells #[.int .i64 r.log, .int .i64 r.line] 53)
  have HK := Lib.hid (h.keep n1)
  have HR := Lib.hid (RowIs.new W 53 [.int .i64 r.log, .int .i64 r.line])
  have hne : W.heap.size ≠ g := by
    obtain ⟨_, _, h1, _⟩ := h.lines
    have := h1.lt
    omega
  have HNE := Lib.hid hne
  obtain ⟨LA, lc, hg, hO⟩ := h.lines
  have hown := owns_lt hO
  replace hg := hg.keep n1
  replace hO := owns_keep hO n1
  have HNW := Lib.hid n1
  clear h n1 hne
  go_enter Tryd.func122, Tryd.ntmps122
  go_wp2_with fail
  generalize hB : W.heap.size = B at *
  generalize hW1 : W.alloc (.cells #[.int .i64 r.log, .int .i64 r.line] 53) = W1 at *
  clear hW1
  obtain ⟨cv, hcv⟩ := HK.out.idx.looks hr
  unfold rfA at hcv
  have HSD : Hid (∀ w', New W1 w' → w'.cell? ⟨g, 2, none⟩ = some (.map (some b)) ∧ (w'.cell? ⟨B, 0, none⟩ = some (.int .i64 r.log) ∧ w'.cell? ⟨B, 1, none⟩ = some (.int .i64 r.line)) ∧ (Instr.lookup 158 (.map (some b)) (.agg #[.int .i64 r.log, .int .i64 r.line]) true).run Tryd.prog w' = .ok (.tuple #[.int .i64 cv, .bool (decide (r ∈ l))]) w') := Lib.hid fun w' hn => ⟨(hg.keep hn).cell rfl, ⟨(HR.out.keep hn).cell rfl, (HR.out.keep hn).cell rfl⟩, hcv w' hn⟩
  have HG := Lib.hid hg
  have HO := Lib.hid hO
  clear hg hO hcv
  refine region_plain (by kernel_rfl) (wpAny_of_held (S := fun w' => w'.cell? ⟨g, 2, none⟩ = some (.map (some b)) ∧ (w'.cell? ⟨B, 0, none⟩ = some (.int .i64 r.log) ∧ w'.cell? ⟨B, 1, none⟩ = some (.int .i64 r.line)) ∧ (Instr.lookup 158 (.map (some b)) (.agg #[.int .i64 r.log, .int .i64 r.line]) true).run Tryd.prog w' = .ok (.tuple #[.int .i64 cv, .bool (decide (r ∈ l))]) w') _ _ _ _ ?_)
  change wpAnyH _ _ _ _ _ _ _ _ W1.drew
  have hS := HSD.out W1.drew (New.refl W1).drew
  refine wpAnyH_take (i := 0) (v := ?_) rfl (by kernel_rfl) (by kernel_rfl) (by kernel_rfl) (fun _ _ _ h => h) (Or.inl ⟨by rfl, fun w' hS' => ?_⟩) hS ?_
  rotate_left
  · obtain ⟨s0, ⟨s1, s2⟩, s3⟩ := hS'
    go_simp
    try rfl
  try simp only [List.getElem_toArray, List.getElem_cons_zero, Act.put, List.setIfInBounds_toArray, List.set_cons_zero, List.set_cons_succ]
  refine wpAnyH_take (i := 1) (v := ?_) rfl (by kernel_rfl) (by kernel_rfl) (by kernel_rfl) (fun _ _ _ h => h) (Or.inl ⟨by rfl, fun w' hS' => ?_⟩) hS ?_
  rotate_left
  · obtain ⟨s0, ⟨s1, s2⟩, s3⟩ := hS'
    go_simp
    try rfl
  try simp only [List.getElem_toArray, List.getElem_cons_zero, List.getElem_cons_succ, Act.put, List.setIfInBounds_toArray, List.set_cons_zero, List.set_cons_succ]
  refine wpAnyH_take (i := 2) (v := ?_) rfl (by kernel_rfl) (by kernel_rfl) (by kernel_rfl) (fun _ _ _ h => h) (Or.inl ⟨by rfl, fun w' hS' => ?_⟩) hS ?_
  rotate_left
  · obtain ⟨s0, ⟨s1, s2⟩, s3⟩ := hS'
    go_simp
    try rfl
  try simp only [List.getElem_toArray, List.getElem_cons_zero, List.getElem_cons_succ, Act.put, List.setIfInBounds_toArray, List.set_cons_zero, List.set_cons_succ]
  refine wpAnyH_take (i := 3) (v := ?_) rfl (by kernel_rfl) (by kernel_rfl) (by kernel_rfl) (fun _ _ _ h => h) (Or.inl ⟨by rfl, fun w' hS' => ?_⟩) hS ?_
  rotate_left
  · obtain ⟨s0, ⟨s1, s2⟩, s3⟩ := hS'
    go_simp
    try rfl
  try simp only [List.getElem_toArray, List.getElem_cons_zero, List.getElem_cons_succ, Act.put, List.setIfInBounds_toArray, List.set_cons_zero, List.set_cons_succ]
  refine wpAnyH_take (i := 4) (v := ?_) rfl (by kernel_rfl) (by kernel_rfl) (by kernel_rfl) (fun _ _ _ h => h) (Or.inl ⟨by rfl, fun w' hS' => ?_⟩) hS ?_
  rotate_left
  · obtain ⟨s0, ⟨s1, s2⟩, s3⟩ := hS'
    go_simp
    try rfl
  try simp only [List.getElem_toArray, List.getElem_cons_zero, List.getElem_cons_succ, Act.put, List.setIfInBounds_toArray, List.set_cons_zero, List.set_cons_succ]
  refine wpAnyH_take (i := 5) (v := ?_) rfl (by kernel_rfl) (by kernel_rfl) (by kernel_rfl) (fun _ _ _ h => h) (Or.inl ⟨by rfl, fun w' hS' => ?_⟩) hS ?_
  rotate_left
  · obtain ⟨s0, ⟨s1, s2⟩, s3⟩ := hS'
    go_simp
    try rfl
  try simp only [List.getElem_toArray, List.getElem_cons_zero, List.getElem_cons_succ, Act.put, List.setIfInBounds_toArray, List.set_cons_zero, List.set_cons_succ]
  refine wpAnyH_take (i := 6) (v := ?_) rfl (by kernel_rfl) (by kernel_rfl) (by kernel_rfl) (fun _ _ _ h => h) (Or.inl ⟨by rfl, fun w' hS' => ?_⟩) hS ?_
  rotate_left
  · obtain ⟨s0, ⟨s1, s2⟩, s3⟩ := hS'
    go_simp
    try rfl
  try simp only [List.getElem_toArray, List.getElem_cons_zero, List.getElem_cons_succ, Act.put, List.setIfInBounds_toArray, List.set_cons_zero, List.set_cons_succ]
  refine wpAnyH_take (i := 7) (v := ?_) rfl (by kernel_rfl) (by kernel_rfl) (by kernel_rfl) (fun _ _ _ h => h) (Or.inl ⟨by rfl, fun w' hS' => ?_⟩) hS ?_
  rotate_left
  · obtain ⟨s0, ⟨s1, s2⟩, s3⟩ := hS'
    go_simp
    try rfl
  try simp only [List.getElem_toArray, List.getElem_cons_zero, List.getElem_cons_succ, Act.put, List.setIfInBounds_toArray, List.set_cons_zero, List.set_cons_succ]
  refine wpAnyH_take (i := 8) (v := ?_) rfl (by kernel_rfl) (by kernel_rfl) (by kernel_rfl) (fun _ _ _ h => h) (Or.inl ⟨by rfl, fun w' hS' => ?_⟩) hS ?_
  rotate_left
  · obtain ⟨s0, ⟨s1, s2⟩, s3⟩ := hS'
    go_simp
    try rfl
  try simp only [List.getElem_toArray, List.getElem_cons_zero, List.getElem_cons_succ, Act.put, List.setIfInBounds_toArray, List.set_cons_zero, List.set_cons_succ]
  refine wpAnyH_take (i := 9) (v := ?_) rfl (by kernel_rfl) (by kernel_rfl) (by kernel_rfl) (fun _ _ _ h => h) (Or.inl ⟨by rfl, fun w' hS' => ?_⟩) hS ?_
  rotate_left
  · obtain ⟨s0, ⟨s1, s2⟩, s3⟩ := hS'
    go_simp
    try rfl
  try simp only [List.getElem_toArray, List.getElem_cons_zero, List.getElem_cons_succ, Act.put, List.setIfInBounds_toArray, List.set_cons_zero, List.set_cons_succ]
  refine wpAnyH_take (i := 10) (v := ?_) rfl (by kernel_rfl) (by kernel_rfl) (by kernel_rfl) (fun _ _ _ h => h) (Or.inl ⟨by rfl, fun w' hS' => ?_⟩) hS ?_
  rotate_left
  · obtain ⟨s0, ⟨s1, s2⟩, s3⟩ := hS'
    go_simp
    try rfl
  try simp only [List.getElem_toArray, List.getElem_cons_zero, List.getElem_cons_succ, Act.put, List.setIfInBounds_toArray, List.set_cons_zero, List.set_cons_succ]
  refine wpAnyH_done (by kernel_rfl) ?_ _
  unfold NormQ
  dsimp only [Exit.then]
  clear hS
  have HK2 := Lib.hid (HK.out.keep (New.refl W1).drew)
  have HR2 := Lib.hid HR.out.drew
  have HG2 := Lib.hid HG.out.drew
  have HO2 := Lib.hid (owns_keep HO.out (New.refl W1).drew)
  have HNW2 := Lib.hid (HNW.out.trans (New.refl W1).drew)
  clear HK HR HG HSD HO
  generalize W1.drew = W2 at *
  by_cases hm : r ∈ l
  · have hd : decide (r ∈ l) = true := by simp [hm]
    simp only [hd]
    go_wp2_with fail
    first | go_end0 | refine bodyPost_ret (results_none rfl _ _ _) rfl ?_
    exact ⟨rfl, by unfold addR; rw [if_pos hm]; exact HK2.out, fun p e cs hr _ _ => hr.keep HNW2.out⟩
  · have hd : decide (r ∈ l) = false := by simp [hm]
    simp only [hd]
    have g1 := HG2.out.cell (i := 1) rfl
    have g2 := HG2.out.cell (i := 2) rfl
    have b0 := HR2.out.cell (i := 0) rfl
    have b1 := HR2.out.cell (i := 1) rfl
    go_wp2_with fail
    go_still_tail 10, (by kernel_rfl)
    change wpList _ _ _ _ _ W2.drew
    have HK3 := Lib.hid (HK2.out.keep (New.refl W2).drew)
    have HR3 := Lib.hid HR2.out.drew
    have HG3 := Lib.hid HG2.out.drew
    have HO3 := Lib.hid (owns_keep HO2.out (New.refl W2).drew)
    have HNW3 := Lib.hid (HNW2.out.trans (New.refl W2).drew)
    clear HK2 HR2 HG2 HO2 g1 g2 b0 b1
    generalize W2.drew = W3 at *
    obtain ⟨w4, hrun, him, hgr⟩ := HK3.out.idx.put hr hm (by unfold maxLen; omega) (by omega)
    unfold rfA at hrun
    obtain ⟨n4, q1, q2⟩ := HK3.out.mapped hgr HG3.out HO3.out
    have r4 : RowIs w4 B 53 [.int .i64 r.log, .int .i64 r.line] := HR3.out.grown hgr (fun e => by
      have e2 : b = B := by cases e; rfl
      obtain ⟨es, clock, hb⟩ := HK3.out.idx.at
      have h1 := HR3.out
      unfold RowIs at h1
      rw [← e2, hb] at h1
      cases h1)
    go_wp2_with fail
    have HK4 : Hid (∀ p e cs, RowIs W p e cs → RowIs w4 p e cs) := Lib.hid fun p e cs hr => (hr.keep HNW3.out).grown hgr (fun e2 => by
      have e3 : b = p := by cases e2; rfl
      obtain ⟨es, clock, hb⟩ := HK3.out.idx.at
      have h1 := hr.keep HNW3.out
      unfold RowIs at h1
      rw [← e3, hb] at h1
      cases h1)
    have HQ1 := Lib.hid q1
    have HQ2 := Lib.hid q2
    have HR4 := Lib.hid r4
    have HIM := Lib.hid him
    have HN4 := Lib.hid n4
    have HHG := Lib.hid HK3.out.hg
    have HHB := Lib.hid HK3.out.hb
    clear q1 q2 r4 him hgr hrun HK3 HR3 n4 HG3 HO3
    have HSD : Hid (∀ w', New w4 w' → w'.cell? ⟨g, 1, none⟩ = some (.slice LA l.length lc) ∧ w'.cell? ⟨B, 0, none⟩ = some (.int .i64 r.log) ∧ w'.cell? ⟨B, 1, none⟩ = some (.int .i64 r.line)) := Lib.hid fun w' hn => ⟨(HQ1.out.keep hn).cell rfl, (HR4.out.keep hn).cell rfl, (HR4.out.keep hn).cell rfl⟩
    refine region_plain (by kernel_rfl) (wpAny_lastL (S := fun w' => w'.cell? ⟨g, 1, none⟩ = some (.slice LA l.length lc) ∧ w'.cell? ⟨B, 0, none⟩ = some (.int .i64 r.log) ∧ w'.cell? ⟨B, 1, none⟩ = some (.int .i64 r.line)) rfl (by kernel_rfl) (by kernel_rfl) (by kernel_rfl) ?_)
    simp only [List.dropLast, List.length_cons, List.length_nil, Nat.reduceAdd]
    change wpAnyH _ _ _ _ _ _ _ _ w4.drew
    have hS := HSD.out w4.drew (New.refl w4).drew
    refine wpAnyH_take (i := 0) (v := ?_) rfl (by kernel_rfl) (by kernel_rfl) (by kernel_rfl) (fun _ _ _ h => h) (Or.inl ⟨by rfl, fun w' hS' => ?_⟩) hS ?_
    rotate_left
    · obtain ⟨s0, s1, s2⟩ := hS'
      go_simp
      try rfl
    try simp only [List.getElem_toArray, List.getElem_cons_zero, Act.put, List.setIfInBounds_toArray, List.set_cons_zero, List.set_cons_succ]
    refine wpAnyH_take (i := 1) (v := ?_) rfl (by kernel_rfl) (by kernel_rfl) (by kernel_rfl) (fun _ _ _ h => h) (Or.inl ⟨by rfl, fun w' hS' => ?_⟩) hS ?_
    rotate_left
    · obtain ⟨s0, s1, s2⟩ := hS'
      go_simp
      try rfl
    try simp only [List.getElem_toArray, List.getElem_cons_zero, List.getElem_cons_succ, Act.put, List.setIfInBounds_toArray, List.set_cons_zero, List.set_cons_succ]
    refine wpAnyH_take (i := 2) (v := ?_) rfl (by kernel_rfl) (by kernel_rfl) (by kernel_rfl) (fun _ _ _ h => h) (Or.inl ⟨by rfl, fun w' hS' => ?_⟩) hS ?_
    rotate_left
    · obtain ⟨s0, s1, s2⟩ := hS'
      go_simp
      try rfl
    try simp only [List.getElem_toArray, List.getElem_cons_zero, List.getElem_cons_succ, Act.put, List.setIfInBounds_toArray, List.set_cons_zero, List.set_cons_succ]
    refine wpAnyH_take (i := 3) (v := ?_) rfl (by kernel_rfl) (by kernel_rfl) (by kernel_rfl) (fun _ _ _ h => h) (Or.inl ⟨by rfl, fun w' hS' => ?_⟩) hS ?_
    rotate_left
    · obtain ⟨s0, s1, s2⟩ := hS'
      go_simp
      try rfl
    try simp only [List.getElem_toArray, List.getElem_cons_zero, List.getElem_cons_succ, Act.put, List.setIfInBounds_toArray, List.set_cons_zero, List.set_cons_succ]
    refine wpAnyH_take (i := 4) (v := ?_) rfl (by kernel_rfl) (by kernel_rfl) (by kernel_rfl) (fun _ _ _ h => h) (Or.inl ⟨by rfl, fun w' hS' => ?_⟩) hS ?_
    rotate_left
    · obtain ⟨s0, s1, s2⟩ := hS'
      go_simp
      try rfl
    try simp only [List.getElem_toArray, List.getElem_cons_zero, List.getElem_cons_succ, Act.put, List.setIfInBounds_toArray, List.set_cons_zero, List.set_cons_succ]
    refine wpAnyH_take (i := 5) (v := ?_) rfl (by kernel_rfl) (by kernel_rfl) (by kernel_rfl) (fun _ _ _ h => h) (Or.inl ⟨by rfl, fun w' hS' => ?_⟩) hS ?_
    rotate_left
    · obtain ⟨s0, s1, s2⟩ := hS'
      go_simp
      try rfl
    try simp only [List.getElem_toArray, List.getElem_cons_zero, List.getElem_cons_succ, Act.put, List.setIfInBounds_toArray, List.set_cons_zero, List.set_cons_succ]
    clear hS
    have n5 := ((New.refl w4).drew).alloc (.cells #[.int .i64 r.log, .int .i64 r.line] 53)
    refine wpAnyH_ready (rs := [6]) (by kernel_rfl) (by simp) ?_
    refine AllReadyH.cons rfl (fun K hK => ?_) AllReadyH.nil
    go_simp
    refine hK.out _ _ (HSD.out _ n5) (fun hS => ?_)
    clear hK K hS
    try simp only [List.getElem_toArray, List.getElem_cons_zero, List.getElem_cons_succ, Act.put, List.setIfInBounds_toArray, List.set_cons_zero, List.set_cons_succ]
    obtain ⟨i1, hi1, hy0, hy1, hy2⟩ := info_parts info_rf
    have hq0 := owns_keep HQ2.out n5
    have hm1 : l.length + 1 ≤ maxLen := by unfold maxLen; omega
    have hm2 : (l.length + 1) * 16 ≤ 140737488355328 := by omega
    have hbs : w0.heap.size ≤ (w4.drew.alloc (.cells #[.int .i64 r.log, .int .i64 r.line] 53)).heap.size := by have := n5.size; have := HN4.out.size; omega
    refine wpAnyH_ready (rs := [7]) (by kernel_rfl) (by simp) ?_
    refine AllReadyH.cons rfl (fun K hK => ?_) AllReadyH.nil
    refine step_append_lies _ rfl (.tmp 31) (.tmp 33) 116 rfl w0.heap.size 53 i1 (.agg #[.int .i64 0, .int .i64 0]) 2 16 under_rfs hi1 hy0 hy1 hy2 rfl (by decide) (.slice LA l.length lc) l.length _ rfl hq0 ⟨w4.heap.size, 0, none⟩ 1 1 [.int .i64 r.log, .int .i64 r.line] rfl rfl (World.news_of_block (cs := #[.int .i64 r.log, .int .i64 r.line]) (heap_alloc_new w4.drew _)) (by simp [Value.oneCell']) (by decide) hm1 hm2 hbs _ rfl ?_
    intro g5 cap w5 ho hgw hat hlt5
    have hgb : RowIs w5 B 53 [.int .i64 r.log, .int .i64 r.line] := (HR4.out.keep n5).grown hgw (fun e => hown e)
    obtain ⟨a1, a2, a3, -, -⟩ := push_all 1 hq0 hgw ho (HQ1.out.keep n5) (by decide)
    refine hK.out _ _ ⟨a1.cell rfl, hgb.cell rfl, hgb.cell rfl⟩ (fun hS => ?_)
    clear hK K
    try simp only [List.getElem_toArray, List.getElem_cons_zero, List.getElem_cons_succ, Act.put, List.setIfInBounds_toArray, List.set_cons_zero, List.set_cons_succ]
    refine wpAnyH_take (i := 8) (v := ?_) rfl (by kernel_rfl) (by kernel_rfl) (by kernel_rfl) (fun _ _ _ h => h) (Or.inl ⟨by rfl, fun w' hS' => ?_⟩) hS ?_
    rotate_left
    · obtain ⟨s0, s1, s2⟩ := hS'
      go_simp
      try rfl
    try simp only [List.getElem_toArray, List.getElem_cons_zero, List.getElem_cons_succ, Act.put, List.setIfInBounds_toArray, List.set_cons_zero, List.set_cons_succ]
    refine wpAnyH_take (i := 9) (v := ?_) rfl (by kernel_rfl) (by kernel_rfl) (by kernel_rfl) (fun _ _ _ h => h) (Or.inl ⟨by rfl, fun w' hS' => ?_⟩) hS ?_
    rotate_left
    · obtain ⟨s0, s1, s2⟩ := hS'
      go_simp
      try rfl
    try simp only [List.getElem_toArray, List.getElem_cons_zero, List.getElem_cons_succ, Act.put, List.setIfInBounds_toArray, List.set_cons_zero, List.set_cons_succ]
    refine wpAnyH_done (by kernel_rfl) ?_ _
    clear hS
    have x1 := a1.cell (i := 1) rfl
    have xf := a1.free 1
    have hb5 := Below.trans (HN4.out.trans n5) (grown_below hq0 hgw hbs)
    have HNF : Hid (New w0 (w5.setCell ⟨g, 1, none⟩ (.slice (some ⟨g5, 0, none⟩) (l.length + 1) cap))) := Lib.hid (hb5.setCell HHG.out _)
    have hbk : (w5.setCell ⟨g, 1, none⟩ (.slice (some ⟨g5, 0, none⟩) (l.length + 1) cap)).heap[b]? = w4.heap[b]? := by
      obtain ⟨es, clock, hb⟩ := HIM.out.at
      have hbl := (Array.getElem?_eq_some_iff.1 hb).1
      have e1 : (w4.drew.alloc (.cells #[.int .i64 r.log, .int .i64 r.line] 53)).heap[b]? = w4.heap[b]? := n5.out.block b hbl
      have e2 : w5.heap[b]? = (w4.drew.alloc (.cells #[.int .i64 r.log, .int .i64 r.line] 53)).heap[b]? := hgw.block b (Nat.lt_of_lt_of_le hbl n5.size) (fun e => by
        rcases HQ2.out.2 with ⟨e3, _⟩ | ⟨g', cap', cur, e3, _, hh, _⟩
        · rw [e3] at e; simp [Value.ownBlock] at e
        · rw [e3] at e
          have e4 : b = g' := by simpa [Value.ownBlock] using e
          rw [← e4, hb] at hh
          cases hh)
      have e5 : g ≠ b := fun e => by
        have h1 := HQ1.out
        unfold RowIs at h1
        rw [e, hb] at h1
        cases h1
      exact (Below.heap_setCell w5 ⟨g, 1, none⟩ _ b (fun e => e5 e.symm)).trans (e2.trans e1)
    have HFI := Lib.hid (HIM.out.block hbk)
    have HKF : Hid (∀ p e cs, RowIs W p e cs → p ≠ g → e ≠ 53 → RowIs (w5.setCell ⟨g, 1, none⟩ (.slice (some ⟨g5, 0, none⟩) (l.length + 1) cap)) p e cs) := Lib.hid fun p e cs hr hpg hpe => by
      have h5 := (HK4.out p e cs hr).keep n5
      exact (h5.grown hgw (owns_ne hq0 h5 (Ne.symm hpe))).other (Ne.symm hpg) _ _
    have HA2 := Lib.hid a2
    have HA3 := Lib.hid a3
    clear a1 a2 a3 hbk hb5 hq0 n5 ho hgw hgb
    unfold LastQ NormQ
    go_simp
    first | go_end0 | refine bodyPost_ret (results_none rfl _ _ _) rfl ?_
    have e1 : addR l r = l ++ [r] := by unfold addR; rw [if_neg hm]
    have e2 : (l ++ [r]).length = l.length + 1 := by simp
    refine ⟨rfl, ⟨HNF.out, HHG.out, HHB.out, ⟨some ⟨g5, 0, none⟩, cap, ?_, ?_⟩, ?_⟩, HKF.out⟩
    · rw [e1, e2]; exact HA2.out
    · rw [e1, e2, List.flatMap_append]; exact HA3.out
    · rw [e1, e2]; exact HFI.out
end Go.Proofs.YtodmbcoobjcooaaDoor

namespace Go.Proofs.YtodmbcoobjcooaaDoor
open Go Go.RowKit Go.Shelf
attribute [local go_sem] Oper.semAt_some
/-- The most by which each line may be later than each other one, in memory. -/
structure MostA (W : World) (base g mb m mc : Nat) (win : Int) (gs cs : Nat → Nat) (M : Nat → Nat → Int) : Prop where
  win : W.cell? ⟨g, 0, none⟩ = some (.int .i64 win)
  most : W.cell? ⟨g, 3, none⟩ = some (.slice (some ⟨mb, 0, none⟩) m mc)
  out : ∀ i, i < m → W.cell? ⟨mb, i, none⟩ = some (.slice (some ⟨gs i, 0, none⟩) m (cs i))
  row : ∀ i j, i < m → j < m → W.cell? ⟨gs i, j, none⟩ = some (.int .i64 (M i j)) ∧ W.frozen? ⟨gs i, j, none⟩ = false
  inj : ∀ i i', i < m → i' < m → gs i = gs i' → i = i'
  far : ∀ i, i < m → gs i ≠ mb ∧ gs i ≠ g ∧ base ≤ gs i
def upd2 (M : Nat → Nat → Int) (i j : Nat) (x : Int) : Nat → Nat → Int := fun i' j' => if i' = i ∧ j' = j then x else M i' j'
theorem MostA.set {W : World} {base g mb m mc : Nat} {win : Int} {gs cs : Nat → Nat} {M : Nat → Nat → Int} (h : MostA W base g mb m mc win gs cs M) {i j : Nat} (hi : i < m) (_ : j < m) (x : Int) : MostA (W.setCell ⟨gs i, j, none⟩ (.int .i64 x)) base g mb m mc win gs cs (upd2 M i j x) := by
  have hf := h.far i hi
  have other : ∀ p o v, p ≠ gs i ∨ o ≠ j → W.cell? ⟨p, o, none⟩ = some v → (W.setCell ⟨gs i, j, none⟩ (.int .i64 x)).cell? ⟨p, o, none⟩ = some v := fun p o v hne hv => by
    have hne2 : (⟨gs i, j, none⟩ : Addr) ≠ ⟨p, o, none⟩ := fun e => by
      simp only [Addr.mk.injEq] at e
      rcases hne with h1 | h1
      · exact h1 e.1.symm
      · exact h1 e.2.1.symm
    rw [World.cell?_setCell_other (h := hne2)]
    exact hv
  refine ⟨other _ _ _ (.inl (Ne.symm hf.2.1)) h.win, other _ _ _ (.inl (Ne.symm hf.2.1)) h.most, fun k hk => other _ _ _ (.inl (Ne.symm hf.1)) (h.out k hk), fun k l hk hl => ?_, h.inj, h.far⟩
  obtain ⟨h1, h2⟩ := h.row k l hk hl
  refine ⟨?_, by rw [World.frozen?_setCell]; exact h2⟩
  by_cases e : k = i ∧ l = j
  · obtain ⟨rfl, rfl⟩ := e
    have e2 : upd2 M k l x k l = x := by simp [upd2]
    rw [e2]
    exact World.cell?_setCell_same _ _ _ h1
  · have e2 : upd2 M i j x k l = M k l := by unfold upd2; rw [if_neg e]
    rw [e2]
    refine other _ _ _ ?_ h1
    by_cases e3 : k = i
    · exact .inr (fun e4 => e ⟨e3, e4⟩)
    · exact .inl (fun e4 => e3 (h.inj k i hk hi e4))
theorem MostA.keep {W W' : World} {base g mb m mc : Nat} {win : Int} {gs cs : Nat → Nat} {M : Nat → Nat → Int} (h : MostA W base g mb m mc win gs cs M) (k : New W W') : MostA W' base g mb m mc win gs cs M :=
  ⟨k.cellOf h.win, k.cellOf h.most, fun i hi => k.cellOf (h.out i hi), fun i j hi hj => ⟨k.cellOf (h.row i j hi hj).1, by
    have h1 := h.row i j hi hj
    have hlt : gs i < W.heap.size := lt_of_cell h1.1
    rw [← h1.2]
    unfold World.frozen?
    rw [k.out.block _ hlt]⟩, h.inj, h.far⟩
theorem MostA.congr {W : World} {base g mb m mc : Nat} {win : Int} {gs cs : Nat → Nat} {M N : Nat → Nat → Int} (h : MostA W base g mb m mc win gs cs M) (e : ∀ i j, i < m → j < m → M i j = N i j) : MostA W base g mb m mc win gs cs N :=
  ⟨h.win, h.most, h.out, fun i j hi hj => by rw [← e i j hi hj]; exact h.row i j hi hj, h.inj, h.far⟩
/-- The rows while the one of i is gone through, j numbers written. -/
def tgt (win : Int) (a b : Nat) (M : Nat → Nat → Int) (i j : Nat) : Nat → Nat → Int := fun p q => if p < i ∨ p = i ∧ q < j then min (M p q) (M p a + win + M b q) else M p q
theorem tgt_step (win : Int) (a b : Nat) (M : Nat → Nat → Int) (i j : Nat) : upd2 (tgt win a b M i j) i j (min (M i j) (M i a + win + M b j)) = tgt win a b M i (j + 1) := by
  funext p q
  unfold upd2 tgt
  by_cases h : p = i ∧ q = j
  · obtain ⟨rfl, rfl⟩ := h
    rw [if_pos ⟨rfl, rfl⟩, if_pos (.inr ⟨rfl, by omega⟩)]
  · rw [if_neg h]
    by_cases h2 : p < i ∨ p = i ∧ q < j
    · rw [if_pos h2, if_pos (h2.imp id (fun h => ⟨h.1, by omega⟩))]
    · rw [if_neg h2, if_neg (by omega)]
theorem tgt_b {win : Int} {a b : Nat} {M : Nat → Nat → Int} (h : -win ≤ M b a) (i j q : Nat) : tgt win a b M i j b q = M b q := by
  unfold tgt
  split
  · omega
  · rfl
theorem tgt_at (win : Int) (a b : Nat) (M : Nat → Nat → Int) (i j q : Nat) (h : j ≤ q) : tgt win a b M i j i q = M i q := by
  unfold tgt
  rw [if_neg (by omega)]
theorem tgt_row (win : Int) (a b m : Nat) (M : Nat → Nat → Int) (i : Nat) : ∀ p q, p < m → q < m → tgt win a b M i m p q = tgt win a b M (i + 1) 0 p q := fun p q _ hq => by
  unfold tgt
  by_cases h : p < i ∨ p = i ∧ q < m
  · rw [if_pos h, if_pos (by omega)]
  · rw [if_neg h, if_neg (by omega)]
/-- Only the rows have been written. -/
def KeepGs (gs : Nat → Nat) (m : Nat) (W W' : World) : Prop := Below 0 W W' ∧ ∀ k, k < W.heap.size → (∀ i, i < m → k ≠ gs i) → W'.heap[k]? = W.heap[k]?
theorem KeepGs.refl (gs : Nat → Nat) (m : Nat) (W : World) : KeepGs gs m W W := ⟨Below.refl _ _, fun _ _ _ => rfl⟩
theorem KeepGs.new {gs : Nat → Nat} {m : Nat} {A B C : World} (h : KeepGs gs m A B) (k : New B C) : KeepGs gs m A C :=
  ⟨h.1.trans (Below.mono k (Nat.zero_le _)), fun i hi hne => (k.out.block i (Nat.lt_of_lt_of_le hi h.1.size)).trans (h.2 i hi hne)⟩
theorem KeepGs.set {gs : Nat → Nat} {m : Nat} {A B : World} (h : KeepGs gs m A B) {i : Nat} (hi : i < m) (j : Nat) (v : Value) : KeepGs gs m A (B.setCell ⟨gs i, j, none⟩ v) :=
  ⟨h.1.trans ((Below.refl _ _).setCell (Nat.zero_le _) _), fun k hk hne => (Below.heap_setCell B ⟨gs i, j, none⟩ v k (fun e => hne i hi e)).trans (h.2 k hk hne)⟩
set_option maxRecDepth 100000 in
set_option maxHeartbeats 8000000 in
theorem ck_tighten (W : World) (base g mb m mc : Nat) (win : Int) (gs cs : Nat → Nat) (M : Nat → Nat → Int) (h : MostA W base g mb m mc win gs cs M) (hm : m ≤ 100000) (a b : Nat) (ha : a < m) (hb : b < m) (hba : -win ≤ M b a) (hw : 0 ≤ win ∧ win ≤ 1000000) (hbd : ∀ i j, i < m → j < m → -1000000000000000 ≤ M i j ∧ M i j ≤ 1000000000000000) :
    Calls Tryd.prog 125 #[.pointer (some ⟨g, 0, none⟩), .int .i64 a, .int .i64 b] W fun e w' => e = .returned (.tuple #[]) ∧ KeepGs gs m W w' ∧ MostA w' base g mb m mc win gs cs (if M a b ≤ win then M else tgt win a b M m 0) := by
  have z0 := h.win
  have z1 := h.most
  have z2 := h.out a ha
  have z3 := (h.row a b ha hb).1
  have i1 : (a : Int) < (m : Int) := by omega
  have i2 : (b : Int) < (m : Int) := by omega
  have H := Lib.hid h
  have HBD := Lib.hid hbd
  have hbb := hbd b a hb ha
  clear h
  by_cases hle : M a b ≤ win
  · rw [if_pos hle]
    go_enter Tryd.func125, Tryd.ntmps125
    go_wp2_with fail
    go_quiet (fail)
    go_wp2_with fail
    first | go_end0 | refine bodyPost_ret (results_none rfl _ _ _) rfl ?_
    have hk := (New.refl W).drewN nq
    exact ⟨rfl, (KeepGs.refl gs m W).new hk, H.out.keep hk⟩
  · rw [if_neg hle]
    go_enter Tryd.func125, Tryd.ntmps125
    go_wp2_with fail
    go_quiet (fail)
    have hk := (New.refl W).drewN nq
    have H2 := Lib.hid (H.out.keep hk)
    have HK2 := Lib.hid ((KeepGs.refl gs m W).new hk)
    clear H z0 z1 z2 z3 hk
    generalize W.drewN nq = W2 at *
    have z1 := H2.out.most
    have z2 := H2.out.out b hb
    go_wp2_with fail
    clear z1 z2
    go_loopw [39] (fun i wr => ∃ k : Nat, k ≤ m ∧ i = .int .i64 k ∧ KeepGs gs m W wr ∧ MostA wr base g mb m mc win gs cs (tgt win a b M k 0)) (fun i _ => m - (intOf i).toNat)
    case atStart => exact ⟨0, Nat.zero_le _, rfl, HK2.out, H2.out.congr (fun i j _ _ => by simp [tgt])⟩
    case round =>
      obtain ⟨k, hk, rfl, hkg, hma⟩ := hrel
      clear H2 HK2
      have HKG := Lib.hid hkg
      have HMA := Lib.hid hma
      by_cases hlt : k < m
      · have ik : (k : Int) < (m : Int) := by omega
        have y0 := hma.out k hlt
        have y1 := hma.row k a hlt ha
        rw [tgt_at _ _ _ _ _ _ _ (Nat.zero_le _)] at y1
        have y2 := y1.1
        have y3 := hma.win
        have hka := HBD.out k a hlt ha
        have hwr : IntKind.i64.wrap (M k a + win) = M k a + win := IntWalk.i64_in _ (by omega)
        clear hkg hma y1
        go_wp2_with fail
        go_quiet (fail)
        have hq := (New.refl wr).drewN nq
        have HM2 := Lib.hid (HMA.out.keep hq)
        have HG2 := Lib.hid (HKG.out.new hq)
        clear HKG HMA hq y0 y2 y3
        generalize wr.drewN nq = W3 at *
        go_wp2_with fail
        go_loopw [54] (fun i wr => ∃ j : Nat, j ≤ m ∧ i = .int .i64 j ∧ KeepGs gs m W wr ∧ MostA wr base g mb m mc win gs cs (tgt win a b M k j)) (fun i _ => m - (intOf i).toNat)
        case atStart => exact ⟨0, Nat.zero_le _, rfl, HG2.out, HM2.out⟩
        case round =>
          obtain ⟨j, hj, rfl, hkg, hma⟩ := hrel
          clear HM2 HG2
          have HKG := Lib.hid hkg
          have HMA := Lib.hid hma
          by_cases hjt : j < m
          · have ij : (j : Int) < (m : Int) := by omega
            have y1 := hma.row b j hb hjt
            rw [tgt_b hba] at y1
            have y2 := y1.1
            have x1 := hma.row k j hlt hjt
            rw [tgt_at _ _ _ _ _ _ _ (Nat.le_refl _)] at x1
            have x2 := x1.1
            have x3 := x1.2
            have hbj := HBD.out b j hb hjt
            have hkj := HBD.out k j hlt hjt
            have hwr2 : IntKind.i64.wrap (M k a + win + M b j) = M k a + win + M b j := IntWalk.i64_in _ (by omega)
            clear hkg hma y1 x1
            go_wp2_with fail
            have em : (if M k a + win + M b j < M k j then M k a + win + M b j else M k j) = min (M k j) (M k a + win + M b j) := by split <;> omega
            rw [em]
            exact ⟨⟨j + 1, by omega, by simp, HKG.out.set hlt j _, by rw [← tgt_step]; exact HMA.out.set hlt hjt _⟩, by simp [intOf]; omega⟩
          · obtain rfl : j = m := by omega
            go_wp2_with fail
            go_roundw
            case rel => exact ⟨k + 1, by omega, rfl, HKG.out, HMA.out.congr (tgt_row win a b j M k)⟩
            case measure => simp [intOf]; omega
      · obtain rfl : k = m := by omega
        go_wp2_with fail
        first | go_end0 | refine bodyPost_ret (results_none rfl _ _ _) rfl ?_
        exact ⟨rfl, hkg, hma⟩
end Go.Proofs.YtodmbcoobjcooaaDoor

namespace Go.Proofs.YtodmbcoobjcooaaDoor
open Go Go.RowKit Go.Shelf
attribute [local go_sem] Oper.semAt_some
/-- The numbers behind a tightening, and behind a tie. -/
def tM (m : Nat) (win : Int) (a b : Nat) (M : Nat → Nat → Int) : Nat → Nat → Int := if M a b ≤ win then M else tgt win a b M m 0
def okT (win : Int) (a b : Nat) (M : Nat → Nat → Int) : Bool := decide (-win ≤ M a b) && decide (-win ≤ M b a)
def aM (m : Nat) (win : Int) (a b : Nat) (M : Nat → Nat → Int) : Nat → Nat → Int := if okT win a b M = true then tM m win b a (tM m win a b M) else M
theorem tgt_all (m : Nat) (win : Int) (a b : Nat) (M : Nat → Nat → Int) {i j : Nat} (hi : i < m) : tgt win a b M m 0 i j = min (M i j) (M i a + win + M b j) := by
  unfold tgt; rw [if_pos (.inl hi)]
theorem KeepGs.trans {gs : Nat → Nat} {m : Nat} {A B C : World} (h : KeepGs gs m A B) (k : KeepGs gs m B C) : KeepGs gs m A C :=
  ⟨h.1.trans k.1, fun i hi hne => (k.2 i (Nat.lt_of_lt_of_le hi h.1.size) hne).trans (h.2 i hi hne)⟩
set_option maxRecDepth 100000 in
set_option maxHeartbeats 8000000 in
theorem ck_add (W : World) (base g mb m mc ib n : Nat) (win : Int) (gs cs : Nat → Nat) (M : Nat → Nat → Int) (h : MostA W base g mb m mc win gs cs M) (l : List Rf) (hx : W.cell? ⟨g, 2, none⟩ = some (.map (some ib))) (hI : IdxM W ib n l) (hl : l.length = m) (hm : m ≤ 100000) (p q : Rf) (hps : Sml p) (hqs : Sml q) (hp : p ∈ l) (hq : q ∈ l) (a b : Nat) (hpa : l.idxOf p = a) (hqb : l.idxOf q = b)
    (hw : 0 ≤ win ∧ win ≤ 1000000) (hbd : ∀ i j, i < m → j < m → -100000000000000 ≤ M i j ∧ M i j ≤ 100000000000000) (hz : ∀ i, i < m → M i i = 0) :
    Calls Tryd.prog 101 #[.pointer (some ⟨g, 0, none⟩), .agg #[.int .i64 p.log, .int .i64 p.line, .int .i64 q.log, .int .i64 q.line]] W fun e w' => e = .returned (.bool (okT win a b M)) ∧ KeepGs gs m W w' ∧ MostA w' base g mb m mc win gs cs (aM m win a b M) := by
  have ha : a < m := by rw [← hl, ← hpa]; exact List.idxOf_lt_length_of_mem hp
  have hb : b < m := by rw [← hl, ← hqb]; exact List.idxOf_lt_length_of_mem hq
  have n1 := (New.refl W).alloc (.cells #[.int .i64 p.log, .int .i64 p.line, .int .i64 q.log, .int .i64 q.line] 79)
  have r1 := RowIs.new W 79 [.int .i64 p.log, .int .i64 p.line, .int .i64 q.log, .int .i64 q.line]
  have H := Lib.hid (h.keep n1)
  have HX := Lib.hid (n1.cellOf hx)
  have HI := Lib.hid (hI.keep n1)
  have HR := Lib.hid r1
  have HK := Lib.hid ((KeepGs.refl gs m W).new n1)
  have HBD := Lib.hid hbd
  have HZ := Lib.hid hz
  clear h hx hI n1 r1 hbd hz
  go_enter Tryd.func101, Tryd.ntmps101
  go_wp2_with fail
  generalize hB : W.heap.size = B at *
  generalize hW1 : W.alloc (.cells #[.int .i64 p.log, .int .i64 p.line, .int .i64 q.log, .int .i64 q.line] 79) = W1 at *
  clear hW1
  have HSD : Hid (∀ w', New W1 w' → w'.cell? ⟨g, 2, none⟩ = some (.map (some ib)) ∧ (w'.cell? ⟨B, 0, none⟩ = some (.int .i64 p.log) ∧ w'.cell? ⟨B, 1, none⟩ = some (.int .i64 p.line) ∧ w'.cell? ⟨B, 2, none⟩ = some (.int .i64 q.log) ∧ w'.cell? ⟨B, 3, none⟩ = some (.int .i64 q.line)) ∧ (Instr.lookup 158 (.map (some ib)) (.agg #[.int .i64 p.log, .int .i64 p.line]) false).run Tryd.prog w' = .ok (.int .i64 a) w' ∧ (Instr.lookup 158 (.map (some ib)) (.agg #[.int .i64 q.log, .int .i64 q.line]) false).run Tryd.prog w' = .ok (.int .i64 b) w') := Lib.hid fun w' hn => ⟨hn.cellOf HX.out, ⟨(HR.out.keep hn).cell rfl, (HR.out.keep hn).cell rfl, (HR.out.keep hn).cell rfl, (HR.out.keep hn).cell rfl⟩, by
    have := (HI.out.keep hn).get hps hp
    rw [hpa] at this
    exact this, by
    have := (HI.out.keep hn).get hqs hq
    rw [hqb] at this
    exact this⟩
  refine region_plain (by kernel_rfl) (wpAny_of_held (S := fun w' => w'.cell? ⟨g, 2, none⟩ = some (.map (some ib)) ∧ (w'.cell? ⟨B, 0, none⟩ = some (.int .i64 p.log) ∧ w'.cell? ⟨B, 1, none⟩ = some (.int .i64 p.line) ∧ w'.cell? ⟨B, 2, none⟩ = some (.int .i64 q.log) ∧ w'.cell? ⟨B, 3, none⟩ = some (.int .i64 q.line)) ∧ (Instr.lookup 158 (.map (some ib)) (.agg #[.int .i64 p.log, .int .i64 p.line]) false).run Tryd.prog w' = .ok (.int .i64 a) w' ∧ (Instr.lookup 158 (.map (some ib)) (.agg #[.int .i64 q.log, .int .i64 q.line]) false).run Tryd.prog w' = .ok (.int .i64 b) w') _ _ _ _ ?_)
  change wpAnyH _ _ _ _ _ _ _ _ W1.drew
  have hS := HSD.out W1.drew (New.refl W1).drew
  refine wpAnyH_take (i := 0) (v := ?_) rfl (by kernel_rfl) (by kernel_rfl) (by kernel_rfl) (fun _ _ _ h => h) (Or.inl ⟨by rfl, fun w' hS' => ?_⟩) hS ?_
  rotate_left
  · obtain ⟨s0, ⟨s1, s2, s3, s4⟩, s5, s6⟩ := hS'
    go_simp
    try rfl
  try simp only [List.getElem_toArray, List.getElem_cons_zero, Act.put, List.setIfInBounds_toArray, List.set_cons_zero, List.set_cons_succ]
  refine wpAnyH_take (i := 1) (v := ?_) rfl (by kernel_rfl) (by kernel_rfl) (by kernel_rfl) (fun _ _ _ h => h) (Or.inl ⟨by rfl, fun w' hS' => ?_⟩) hS ?_
  rotate_left
  · obtain ⟨s0, ⟨s1, s2, s3, s4⟩, s5, s6⟩ := hS'
    go_simp
    try rfl
  try simp only [List.getElem_toArray, List.getElem_cons_zero, List.getElem_cons_succ, Act.put, List.setIfInBounds_toArray, List.set_cons_zero, List.set_cons_succ]
  refine wpAnyH_take (i := 2) (v := ?_) rfl (by kernel_rfl) (by kernel_rfl) (by kernel_rfl) (fun _ _ _ h => h) (Or.inl ⟨by rfl, fun w' hS' => ?_⟩) hS ?_
  rotate_left
  · obtain ⟨s0, ⟨s1, s2, s3, s4⟩, s5, s6⟩ := hS'
    go_simp
    try rfl
  try simp only [List.getElem_toArray, List.getElem_cons_zero, List.getElem_cons_succ, Act.put, List.setIfInBounds_toArray, List.set_cons_zero, List.set_cons_succ]
  refine wpAnyH_take (i := 3) (v := ?_) rfl (by kernel_rfl) (by kernel_rfl) (by kernel_rfl) (fun _ _ _ h => h) (Or.inl ⟨by rfl, fun w' hS' => ?_⟩) hS ?_
  rotate_left
  · obtain ⟨s0, ⟨s1, s2, s3, s4⟩, s5, s6⟩ := hS'
    go_simp
    try rfl
  try simp only [List.getElem_toArray, List.getElem_cons_zero, List.getElem_cons_succ, Act.put, List.setIfInBounds_toArray, List.set_cons_zero, List.set_cons_succ]
  refine wpAnyH_take (i := 4) (v := ?_) rfl (by kernel_rfl) (by kernel_rfl) (by kernel_rfl) (fun _ _ _ h => h) (Or.inl ⟨by rfl, fun w' hS' => ?_⟩) hS ?_
  rotate_left
  · obtain ⟨s0, ⟨s1, s2, s3, s4⟩, s5, s6⟩ := hS'
    go_simp
    try rfl
  try simp only [List.getElem_toArray, List.getElem_cons_zero, List.getElem_cons_succ, Act.put, List.setIfInBounds_toArray, List.set_cons_zero, List.set_cons_succ]
  refine wpAnyH_take (i := 5) (v := ?_) rfl (by kernel_rfl) (by kernel_rfl) (by kernel_rfl) (fun _ _ _ h => h) (Or.inl ⟨by rfl, fun w' hS' => ?_⟩) hS ?_
  rotate_left
  · obtain ⟨s0, ⟨s1, s2, s3, s4⟩, s5, s6⟩ := hS'
    go_simp
    try rfl
  try simp only [List.getElem_toArray, List.getElem_cons_zero, List.getElem_cons_succ, Act.put, List.setIfInBounds_toArray, List.set_cons_zero, List.set_cons_succ]
  refine wpAnyH_take (i := 6) (v := ?_) rfl (by kernel_rfl) (by kernel_rfl) (by kernel_rfl) (fun _ _ _ h => h) (Or.inl ⟨by rfl, fun w' hS' => ?_⟩) hS ?_
  rotate_left
  · obtain ⟨s0, ⟨s1, s2, s3, s4⟩, s5, s6⟩ := hS'
    go_simp
    try rfl
  try simp only [List.getElem_toArray, List.getElem_cons_zero, List.getElem_cons_succ, Act.put, List.setIfInBounds_toArray, List.set_cons_zero, List.set_cons_succ]
  refine wpAnyH_take (i := 7) (v := ?_) rfl (by kernel_rfl) (by kernel_rfl) (by kernel_rfl) (fun _ _ _ h => h) (Or.inl ⟨by rfl, fun w' hS' => ?_⟩) hS ?_
  rotate_left
  · obtain ⟨s0, ⟨s1, s2, s3, s4⟩, s5, s6⟩ := hS'
    go_simp
    try rfl
  try simp only [List.getElem_toArray, List.getElem_cons_zero, List.getElem_cons_succ, Act.put, List.setIfInBounds_toArray, List.set_cons_zero, List.set_cons_succ]
  refine wpAnyH_take (i := 8) (v := ?_) rfl (by kernel_rfl) (by kernel_rfl) (by kernel_rfl) (fun _ _ _ h => h) (Or.inl ⟨by rfl, fun w' hS' => ?_⟩) hS ?_
  rotate_left
  · obtain ⟨s0, ⟨s1, s2, s3, s4⟩, s5, s6⟩ := hS'
    go_simp
    try rfl
  try simp only [List.getElem_toArray, List.getElem_cons_zero, List.getElem_cons_succ, Act.put, List.setIfInBounds_toArray, List.set_cons_zero, List.set_cons_succ]
  refine wpAnyH_take (i := 9) (v := ?_) rfl (by kernel_rfl) (by kernel_rfl) (by kernel_rfl) (fun _ _ _ h => h) (Or.inl ⟨by rfl, fun w' hS' => ?_⟩) hS ?_
  rotate_left
  · obtain ⟨s0, ⟨s1, s2, s3, s4⟩, s5, s6⟩ := hS'
    go_simp
    try rfl
  try simp only [List.getElem_toArray, List.getElem_cons_zero, List.getElem_cons_succ, Act.put, List.setIfInBounds_toArray, List.set_cons_zero, List.set_cons_succ]
  refine wpAnyH_take (i := 10) (v := ?_) rfl (by kernel_rfl) (by kernel_rfl) (by kernel_rfl) (fun _ _ _ h => h) (Or.inl ⟨by rfl, fun w' hS' => ?_⟩) hS ?_
  rotate_left
  · obtain ⟨s0, ⟨s1, s2, s3, s4⟩, s5, s6⟩ := hS'
    go_simp
    try rfl
  try simp only [List.getElem_toArray, List.getElem_cons_zero, List.getElem_cons_succ, Act.put, List.setIfInBounds_toArray, List.set_cons_zero, List.set_cons_succ]
  refine wpAnyH_take (i := 11) (v := ?_) rfl (by kernel_rfl) (by kernel_rfl) (by kernel_rfl) (fun _ _ _ h => h) (Or.inl ⟨by rfl, fun w' hS' => ?_⟩) hS ?_
  rotate_left
  · obtain ⟨s0, ⟨s1, s2, s3, s4⟩, s5, s6⟩ := hS'
    go_simp
    try rfl
  try simp only [List.getElem_toArray, List.getElem_cons_zero, List.getElem_cons_succ, Act.put, List.setIfInBounds_toArray, List.set_cons_zero, List.set_cons_succ]
  refine wpAnyH_take (i := 12) (v := ?_) rfl (by kernel_rfl) (by kernel_rfl) (by kernel_rfl) (fun _ _ _ h => h) (Or.inl ⟨by rfl, fun w' hS' => ?_⟩) hS ?_
  rotate_left
  · obtain ⟨s0, ⟨s1, s2, s3, s4⟩, s5, s6⟩ := hS'
    go_simp
    try rfl
  try simp only [List.getElem_toArray, List.getElem_cons_zero, List.getElem_cons_succ, Act.put, List.setIfInBounds_toArray, List.set_cons_zero, List.set_cons_succ]
  refine wpAnyH_take (i := 13) (v := ?_) rfl (by kernel_rfl) (by kernel_rfl) (by kernel_rfl) (fun _ _ _ h => h) (Or.inl ⟨by rfl, fun w' hS' => ?_⟩) hS ?_
  rotate_left
  · obtain ⟨s0, ⟨s1, s2, s3, s4⟩, s5, s6⟩ := hS'
    go_simp
    try rfl
  try simp only [List.getElem_toArray, List.getElem_cons_zero, List.getElem_cons_succ, Act.put, List.setIfInBounds_toArray, List.set_cons_zero, List.set_cons_succ]
  refine wpAnyH_take (i := 14) (v := ?_) rfl (by kernel_rfl) (by kernel_rfl) (by kernel_rfl) (fun _ _ _ h => h) (Or.inl ⟨by rfl, fun w' hS' => ?_⟩) hS ?_
  rotate_left
  · obtain ⟨s0, ⟨s1, s2, s3, s4⟩, s5, s6⟩ := hS'
    go_simp
    try rfl
  try simp only [List.getElem_toArray, List.getElem_cons_zero, List.getElem_cons_succ, Act.put, List.setIfInBounds_toArray, List.set_cons_zero, List.set_cons_succ]
  refine wpAnyH_take (i := 15) (v := ?_) rfl (by kernel_rfl) (by kernel_rfl) (by kernel_rfl) (fun _ _ _ h => h) (Or.inl ⟨by rfl, fun w' hS' => ?_⟩) hS ?_
  rotate_left
  · obtain ⟨s0, ⟨s1, s2, s3, s4⟩, s5, s6⟩ := hS'
    go_simp
    try rfl
  try simp only [List.getElem_toArray, List.getElem_cons_zero, List.getElem_cons_succ, Act.put, List.setIfInBounds_toArray, List.set_cons_zero, List.set_cons_succ]
  refine wpAnyH_done (by kernel_rfl) ?_ _
  unfold NormQ
  dsimp only [Exit.then]
  clear hS HSD
  have H2 := Lib.hid (H.out.keep (New.refl W1).drew)
  have HK2 := Lib.hid (HK.out.new (New.refl W1).drew)
  clear H HX HI HR HK
  generalize W1.drew = W2 at *
  have z0 := H2.out.win
  have z1 := H2.out.most
  have z2 := H2.out.out a ha
  have z3 := (H2.out.row a b ha hb).1
  have z4 := H2.out.out b hb
  have z5 := (H2.out.row b a hb ha).1
  have i1 : (a : Int) < (m : Int) := by omega
  have i2 : (b : Int) < (m : Int) := by omega
  have hwn : IntKind.i64.wrap (-win) = -win := IntWalk.i64_in _ (by omega)
  go_wp2_with fail
  by_cases h1 : M a b < -win
  · have hd : decide (M a b < -win) = true := by simpa using h1
    have ho : okT win a b M = false := by unfold okT; simp; omega
    go_quiet (fail)
    go_wp2_with fail
    go_ret
    have hk := (New.refl W2).drewN nq
    exact ⟨by first | rfl | (rw [ho]; rfl), HK2.out.new hk, by unfold aM; first | (rw [ho]; exact H2.out.keep hk) | exact H2.out.keep hk⟩
  · have hd : decide (M a b < -win) = false := by simpa using h1
    by_cases h2 : M b a < -win
    · have hd2 : decide (M b a < -win) = true := by simpa using h2
      have ho : okT win a b M = false := by unfold okT; simp; omega
      go_quiet (fail)
      go_wp2_with fail
      go_ret
      have hk := (New.refl W2).drewN nq
      exact ⟨by first | rfl | (rw [ho]; rfl), HK2.out.new hk, by unfold aM; first | (rw [ho]; exact H2.out.keep hk) | exact H2.out.keep hk⟩
    · have hd2 : decide (M b a < -win) = false := by simpa using h2
      have ho : okT win a b M = true := by unfold okT; simp; omega
      have hz1 := HZ.out a ha
      have hz2 := HZ.out b hb
      have h12 : -win ≤ tM m win a b M a b := by
        unfold tM
        split
        · omega
        · rw [tgt_all m win a b M ha]; omega
      have hb1 : ∀ i j, i < m → j < m → -1000000000000000 ≤ tM m win a b M i j ∧ tM m win a b M i j ≤ 1000000000000000 := fun i j hi hj => by
        have e1 := HBD.out i j hi hj
        have e2 := HBD.out i a hi ha
        have e3 := HBD.out b j hb hj
        unfold tM
        split
        · omega
        · rw [tgt_all m win a b M hi]; omega
      have HT1 : Hid (∀ w', New W2 w' → Calls Tryd.prog 125 #[.pointer (some ⟨g, 0, none⟩), .int .i64 a, .int .i64 b] w' fun e w'' => e = .returned (.tuple #[]) ∧ KeepGs gs m w' w'' ∧ MostA w'' base g mb m mc win gs cs (tM m win a b M)) := Lib.hid fun w' hn =>
        ck_tighten w' base g mb m mc win gs cs M (H2.out.keep hn) hm a b ha hb (by omega) hw (fun i j hi hj => by have := HBD.out i j hi hj; omega)
      have HT2 : Hid (∀ w', MostA w' base g mb m mc win gs cs (tM m win a b M) → Calls Tryd.prog 125 #[.pointer (some ⟨g, 0, none⟩), .int .i64 b, .int .i64 a] w' fun e w'' => e = .returned (.tuple #[]) ∧ KeepGs gs m w' w'' ∧ MostA w'' base g mb m mc win gs cs (tM m win b a (tM m win a b M))) := Lib.hid fun w' hh =>
        ck_tighten w' base g mb m mc win gs cs _ hh hm b a hb ha h12 hw hb1
      clear hb1 h12 hz1 hz2
      go_quiet (fail)
      have hk := (New.refl W2).drewN nq
      go_wp2_with fail
      refine (HT1.out _ hk).mono ?_
      rintro e w5 ⟨rfl, k5, m5⟩
      go_wp2_with fail
      refine (HT2.out _ m5).mono ?_
      rintro e w6 ⟨rfl, k6, m6⟩
      go_wp2_with fail
      go_ret
      exact ⟨by first | rfl | (rw [ho]; rfl), ((HK2.out.new hk).trans k5).trans k6, by unfold aM; rw [if_pos ho]; exact m6⟩
end Go.Proofs.YtodmbcoobjcooaaDoor
