/-
  Maps from refs to numbers. Condition: the refs' numbers are small.
-/
import Derived.Test.YtlhdhfhfdkldjaaDoorCkTimes
import Derived.Maps.OwnSet
import Derived.Maps.Keyed
import Derived.DeepKeys4
import Derived.Maps.Views
namespace Go.Proofs.YtlhdhfhfdkldjaaDoor
open Go Go.RowKit Go.Shelf
def rfA (r : Rf) : Value := .agg #[.int .i64 r.log, .int .i64 r.line]
theorem rf_wide : (match Tryd.prog.underlying 53 with | some (.array _ _) | some (.struct _) => true | _ => false) = true := by rw [Tryd.underlying53]
theorem rf_laid : laidOutB Tryd.prog = true := by kernel_rfl
theorem rf_row : (53 : TypeId) < Tryd.prog.types.size := of_decide_eq_true (by kernel_rfl)
theorem rf_at : Tryd.prog.keyTypeAt 2 53 = true := by kernel_rfl
set_option maxRecDepth 100000 in
theorem rf_law : Maps.Keyed Tryd.prog 53 := Maps.Keyed.of_law (deep_law_laid rf_laid (m := 2) (by omega) rf_row rf_at rf_wide)
def rfL (r : Rf) : Lit := .string (keyBytes [.int .i64 r.log, .int .i64 r.line])
/-- The numbers of a ref are small. -/
def Sml (r : Rf) : Prop := (-1 ≤ r.log ∧ r.log ≤ 1000000) ∧ 0 ≤ r.line ∧ r.line ≤ 1000000
theorem cells_rf : Tryd.prog.cellsOf 53 = 2 := by kernel_rfl
theorem cells_i : Tryd.prog.cellsOf 3 = 1 := by kernel_rfl
theorem rf_kt : Tryd.prog.keyType 53 = true := by kernel_rfl
theorem types_size : ∃ m, Tryd.prog.types.size = m + 1 := ⟨Tryd.prog.types.size - 1, by have h : 0 < Tryd.prog.types.size := of_decide_eq_true (by kernel_rfl); omega⟩
theorem rf_reads (r : Rf) (h : Sml r) : keyOf Tryd.prog 53 (rfA r) = some (rfL r) := by
  obtain ⟨⟨h1, h2⟩, h3, h4⟩ := h
  have w1 : (Lit.int .i64 r.log).wf = true := WalkArith.wf_i64 (by omega)
  have w2 : (Lit.int .i64 r.line).wf = true := WalkArith.wf_i64 (by omega)
  obtain ⟨m, hm⟩ := types_size
  unfold keyOf rfA rfL
  simp only [Tryd.underlying53]
  rw [if_pos (by simp [rf_kt, Value.formed, Tryd.underlying53, cells_rf]), hm]
  unfold Program.keyLits
  simp only [Tryd.underlying53, Value.cells]
  rw [if_pos ⟨by rw [cells_rf]; rfl, by decide +kernel⟩]
  simp [cells_i, Program.keyLits, Tryd.underlying3, w1, w2]
theorem rf_inj {r q : Rf} (h : Sml r) (h' : Sml q) (e : rfL r = rfL q) : r = q := by
  have h1 := rf_reads r h
  have h2 := rf_reads q h'
  rw [e] at h1
  have := Maps.Keyed.inj rf_law h1 h2
  simp [rfA] at this
  cases r; cases q; simp_all
theorem zero_i (w : World) : (zeroValue 3).run Tryd.prog w = .ok (.int .i64 0) w := by kernel_rfl
/-- Block b maps each of some refs to its place among them. -/
def IdxM (w : World) (b n : Nat) (l : List Rf) : Prop :=
  ∃ D : DataW Unit, w.ownsMap Tryd.prog 53 (plainElem Tryd.prog 3) b n D ∧ Maps.IsMap D ∧ ∀ r, Sml r → Maps.has D (rfL r) = decide (r ∈ l) ∧ (r ∈ l → D.atKey (rfL r) (.lit (.int .i64 0)) = .lit (.int .i64 (l.idxOf r)))
theorem IdxM.keep {w w' : World} {b n : Nat} {l : List Rf} (h : IdxM w b n l) (k : New w w') : IdxM w' b n l := by
  obtain ⟨D, h1, h2, h3⟩ := h
  exact ⟨D, h1.kept (grown_of k none) (by simp), h2, h3⟩
theorem IdxM.made (w : World) : IdxM (w.alloc (.map #[] 0)) w.heap.size 0 [] :=
  ⟨.map [], World.ownsMap_made w _ _ _, Maps.isMap_empty, fun r _ => ⟨by simp [Maps.has_eq], fun h => absurd h (by simp)⟩⟩
theorem IdxM.look {w : World} {b n : Nat} {l : List Rf} (h : IdxM w b n l) {r : Rf} (hr : Sml r) : ∃ c : Int, (Instr.lookup 158 (.map (some b)) (rfA r) true).run Tryd.prog w = .ok (.tuple #[.int .i64 c, .bool (decide (r ∈ l))]) w := by
  obtain ⟨D, h1, h2, h3⟩ := h
  obtain ⟨v, ps, hrun, hv⟩ := h1.look_ok rf_law Tryd.underlying158 (zero_i w) (plainElem_int Tryd.underlying3 (by decide)) (rf_reads r hr)
  obtain ⟨c, rfl, _, _⟩ := plainElem_int_inv Tryd.underlying3 hv
  exact ⟨c, by rw [hrun, (h3 r hr).1]⟩
theorem IdxM.get {w : World} {b n : Nat} {l : List Rf} (h : IdxM w b n l) {r : Rf} (hr : Sml r) (hm : r ∈ l) : (Instr.lookup 158 (.map (some b)) (rfA r) false).run Tryd.prog w = .ok (.int .i64 (l.idxOf r)) w := by
  obtain ⟨D, h1, h2, h3⟩ := h
  obtain ⟨c, hrun, hat, _⟩ := h1.lookup_int rf_law Tryd.underlying158 Tryd.underlying3 (zero_i w) (rf_reads r hr)
  have := (h3 r hr).2 hm
  have e := hat.symm.trans this
  have e2 : c = l.idxOf r := by cases e; rfl
  rw [hrun, e2]
theorem IdxM.put {w : World} {b n : Nat} {l : List Rf} (h : IdxM w b n l) {r : Rf} (hr : Sml r) (hm : r ∉ l) (hn : n < maxLen) (hl : l.length ≤ 1000000) :
    ∃ w', (Instr.mapUpdate 158 (.map (some b)) (rfA r) (.int .i64 l.length)).run Tryd.prog w = .ok () w' ∧ IdxM w' b (n + 1) (l ++ [r]) ∧ w.grownBy w' (some b) := by
  obtain ⟨D, h1, h2, h3⟩ := h
  obtain ⟨w', hrun, ho, hg⟩ := h1.update rf_law Tryd.underlying158 hn (rf_reads r hr) (plainElem_int Tryd.underlying3 (a := l.length) (WalkArith.wf_i64 (by omega)))
  refine ⟨w', hrun, ⟨_, ho, h2.put _ _, fun q hq => ?_⟩, hg⟩
  by_cases e : q = r
  · subst e
    refine ⟨by rw [Maps.has_put_same h2 (show WideAt.IsKeyLit (rfL q) from trivial)]; simp, fun _ => ?_⟩
    rw [Maps.atKey_put_same h2 (show WideAt.IsKeyLit (rfL q) from trivial), List.idxOf_append, if_neg hm]
    simp
  · have hne : rfL q ≠ rfL r := fun e2 => e (rf_inj hq hr e2)
    obtain ⟨a1, a2⟩ := h3 q hq
    refine ⟨by rw [Maps.has_put_other hne, a1]; simp [e], fun hm2 => ?_⟩
    have hm3 : q ∈ l := by
      rcases List.mem_append.1 hm2 with h | h
      · exact h
      · exact absurd (by simpa using h) e
    rw [Maps.atKey_put_other hne, a2 hm3, List.idxOf_append, if_pos hm3]
end Go.Proofs.YtlhdhfhfdkldjaaDoor
