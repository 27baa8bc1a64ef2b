/-
  Sets of bounds (maps from bounds to truths). Condition: the bounds' numbers are 64 bit ones.
-/
import Derived.Test.YtodmbcoobjcooaaDoorCkNames
import Derived.Test.YtodmbcoobjcooaaDoorCkMoms
import Derived.Test.YtodmbcoobjcooaaDoorCkColl
namespace Go.Proofs.YtodmbcoobjcooaaDoor
open Go Go.RowKit Go.Shelf
def bdA (b : Bd) : Value := .agg #[.int .i64 b.frm.log, .int .i64 b.frm.line, .int .i64 b.to.log, .int .i64 b.to.line, .int .i64 b.most, .int .i64 b.kind, .int .i64 b.id]
theorem bd_wide : (match Tryd.prog.underlying 91 with | some (.array _ _) | some (.struct _) => true | _ => false) = true := by rw [Tryd.underlying91]
theorem bd_row : (91 : TypeId) < Tryd.prog.types.size := of_decide_eq_true (by kernel_rfl)
theorem bd_at : Tryd.prog.keyTypeAt 3 91 = true := by kernel_rfl
set_option maxRecDepth 100000 in
theorem bd_law : Maps.Keyed Tryd.prog 91 := Maps.Keyed.of_law (deep_law_laid rf_laid (m := 3) (by omega) bd_row bd_at bd_wide)
def bdL (b : Bd) : Lit := .string (keyBytes [.int .i64 b.frm.log, .int .i64 b.frm.line, .int .i64 b.to.log, .int .i64 b.to.line, .int .i64 b.most, .int .i64 b.kind, .int .i64 b.id])
/-- The numbers of a bound are those of 64 bits. -/
def BdW (b : Bd) : Prop := (Lit.int .i64 b.frm.log).wf = true ∧ (Lit.int .i64 b.frm.line).wf = true ∧ (Lit.int .i64 b.to.log).wf = true ∧ (Lit.int .i64 b.to.line).wf = true ∧ (Lit.int .i64 b.most).wf = true ∧ (Lit.int .i64 b.kind).wf = true ∧ (Lit.int .i64 b.id).wf = true
theorem cells_bd : Tryd.prog.cellsOf 91 = 7 := by kernel_rfl
theorem bd_kt : Tryd.prog.keyType 91 = true := by kernel_rfl
theorem types_size3 : ∃ m, Tryd.prog.types.size = m + 3 := ⟨Tryd.prog.types.size - 3, by have h : 2 < Tryd.prog.types.size := of_decide_eq_true (by kernel_rfl); omega⟩
theorem rf_lits (x y : Int) (w1 : (Lit.int .i64 x).wf = true) (w2 : (Lit.int .i64 y).wf = true) (m : Nat) : Tryd.prog.keyLits (m + 2) 53 [.int .i64 x, .int .i64 y] = some [.int .i64 x, .int .i64 y] := by
  unfold Program.keyLits
  simp only [Tryd.underlying53]
  rw [if_pos ⟨by rw [cells_rf]; rfl, by decide +kernel⟩]
  simp [cells_i, Program.keyLits, Tryd.underlying3, w1, w2]
theorem bd_reads (b : Bd) (h : BdW b) : keyOf Tryd.prog 91 (bdA b) = some (bdL b) := by
  obtain ⟨w1, w2, w3, w4, w5, w6, w7⟩ := h
  obtain ⟨m, hm⟩ := types_size3
  unfold keyOf bdA bdL
  simp only [Tryd.underlying91]
  rw [if_pos (by simp [bd_kt, Value.formed, Tryd.underlying91, cells_bd]), hm]
  unfold Program.keyLits
  simp only [Tryd.underlying91, Value.cells]
  rw [if_pos ⟨by rw [cells_bd]; rfl, by decide +kernel⟩]
  have hi : ∀ z, (Lit.int .i64 z).wf = true → Tryd.prog.keyLits (m + 3) 3 [.int .i64 z] = some [.int .i64 z] := fun z hz => by
    unfold Program.keyLits
    simp [Tryd.underlying3, hz]
  simp [cells_i, cells_rf, rf_lits _ _ w1 w2 (m + 1), rf_lits _ _ w3 w4 (m + 1), hi _ w5, hi _ w6, hi _ w7]
theorem bd_inj {b c : Bd} (h : BdW b) (h' : BdW c) (e : bdL b = bdL c) : b = c := by
  have h1 := bd_reads b h
  have h2 := bd_reads c h'
  rw [e] at h1
  have := Maps.Keyed.inj bd_law h1 h2
  simp [bdA] at this
  obtain ⟨⟨a1, a2⟩, ⟨a3, a4⟩, a5, a6, a7⟩ := b
  obtain ⟨⟨c1, c2⟩, ⟨c3, c4⟩, c5, c6, c7⟩ := c
  simp_all
/-- Block b maps just the bounds of a list, each once, to a truth. -/
def SetM (w : World) (b n : Nat) (S : List Bd) : Prop :=
  ∃ D : DataW Unit, w.ownsMap Tryd.prog 91 (plainElem Tryd.prog 4) b n D ∧ Maps.Tidy D ∧ (S.Nodup ∧ Maps.size D = S.length) ∧ (∀ y ∈ S, BdW y) ∧ ∀ x, BdW x → Maps.has D (bdL x) = decide (x ∈ S)
theorem SetM.keep {w w' : World} {b n : Nat} {S : List Bd} (h : SetM w b n S) (k : New w w') : SetM w' b n S := by
  obtain ⟨D, h1, h2⟩ := h
  exact ⟨D, h1.kept (grown_of k none) (by simp), h2⟩
theorem SetM.made (w : World) : SetM (w.alloc (.map #[] 0)) w.heap.size 0 [] :=
  ⟨.map [], World.ownsMap_made w _ _ _, Maps.tidy_empty, ⟨List.nodup_nil, rfl⟩, (fun _ h => by cases h), fun x _ => by simp [Maps.has_eq]⟩
theorem SetM.block {w w' : World} {b n : Nat} {S : List Bd} (h : SetM w b n S) (hb : w'.heap[b]? = w.heap[b]?) : SetM w' b n S := by
  obtain ⟨D, ⟨es, clock, h1, h2⟩, h3⟩ := h
  exact ⟨D, ⟨es, clock, hb.trans h1, h2⟩, h3⟩
theorem SetM.at {w : World} {b n : Nat} {S : List Bd} (h : SetM w b n S) : ∃ es clock, w.heap[b]? = some (.map es clock) := by
  obtain ⟨D, ⟨es, clock, h1, _⟩, _⟩ := h
  exact ⟨es, clock, h1⟩
def addB (S : List Bd) (x : Bd) : List Bd := if x ∈ S then S else S ++ [x]
theorem mem_addB {S : List Bd} {x y : Bd} : y ∈ addB S x ↔ y ∈ S ∨ y = x := by
  unfold addB
  split
  · rename_i h
    constructor
    · exact .inl
    · rintro (h1 | rfl)
      · exact h1
      · exact h
  · simp
def delB (S : List Bd) (x : Bd) : List Bd := S.filter fun y => decide (y ≠ x)
theorem mem_delB {S : List Bd} {x y : Bd} : y ∈ delB S x ↔ y ∈ S ∧ y ≠ x := by simp [delB]
theorem delB_len {x : Bd} : ∀ {S : List Bd}, S.Nodup → (delB S x).length + (if x ∈ S then 1 else 0) = S.length
  | [], _ => by simp [delB]
  | y :: S, h => by
    obtain ⟨h1, h2⟩ := List.nodup_cons.1 h
    have ih := delB_len (x := x) h2
    unfold delB at ih ⊢
    by_cases e : y = x
    · subst e
      rw [if_neg h1] at ih
      rw [List.filter_cons_of_neg (by simp), if_pos (by simp), List.length_cons]
      omega
    · rw [List.filter_cons_of_pos (by simp [e]), List.length_cons, List.length_cons]
      by_cases hx : x ∈ S
      · rw [if_pos hx] at ih
        rw [if_pos (by simp [hx])]
        omega
      · rw [if_neg hx] at ih
        rw [if_neg (by simp [hx]; exact fun h => e h.symm)]
        omega
/-- What is put into the datum. -/
theorem set_put {D : DataW Unit} {S : List Bd} {x : Bd} {d : DataW Unit} (hx : BdW x) (h2 : Maps.Tidy D) (h3 : S.Nodup ∧ Maps.size D = S.length) (h4 : ∀ y ∈ S, BdW y) (h5 : ∀ x, BdW x → Maps.has D (bdL x) = decide (x ∈ S)) :
    Maps.Tidy (D.put (bdL x) d) ∧ ((addB S x).Nodup ∧ Maps.size (D.put (bdL x) d) = (addB S x).length) ∧ (∀ y ∈ addB S x, BdW y) ∧ ∀ y, BdW y → Maps.has (D.put (bdL x) d) (bdL y) = decide (y ∈ addB S x) := by
  have hk : WideAt.IsKeyLit (bdL x) := trivial
  refine ⟨h2.put hk d, ⟨?_, ?_⟩, fun y hy => ?_, fun y hy => ?_⟩
  · unfold addB
    split
    · exact h3.1
    · rename_i h
      rw [List.nodup_append]
      exact ⟨h3.1, by simp, fun a ha b hb => by rw [List.mem_singleton] at hb; subst hb; exact fun e => h (e ▸ ha)⟩
  · rw [Maps.size_put h2, h5 x hx, h3.2]
    unfold addB
    by_cases h : x ∈ S
    · simp [h]
    · simp [h]
  · rcases mem_addB.1 hy with h | rfl
    · exact h4 y h
    · exact hx
  · by_cases e : y = x
    · subst e
      rw [Maps.has_put_same h2.isMap hk]
      simp [mem_addB]
    · rw [Maps.has_put_other (fun h => e (bd_inj hy hx h)), h5 y hy]
      simp [mem_addB, e]
/-- What is struck off it. -/
theorem set_del {D : DataW Unit} {S : List Bd} {x : Bd} (hx : BdW x) (h2 : Maps.Tidy D) (h3 : S.Nodup ∧ Maps.size D = S.length) (h4 : ∀ y ∈ S, BdW y) (h5 : ∀ x, BdW x → Maps.has D (bdL x) = decide (x ∈ S)) :
    Maps.Tidy (D.del (bdL x)) ∧ ((delB S x).Nodup ∧ Maps.size (D.del (bdL x)) = (delB S x).length) ∧ (∀ y ∈ delB S x, BdW y) ∧ ∀ y, BdW y → Maps.has (D.del (bdL x)) (bdL y) = decide (y ∈ delB S x) := by
  refine ⟨h2.del _, ⟨h3.1.filter _, ?_⟩, fun y hy => h4 y (mem_delB.1 hy).1, fun y hy => ?_⟩
  · have a := Maps.size_del (k := bdL x) h2
    have b := delB_len (x := x) h3.1
    rw [h5 x hx, h3.2] at a
    by_cases h : x ∈ S
    · simp [h] at a b
      omega
    · simp [h] at a b
      omega
  · by_cases e : y = x
    · subst e
      rw [Maps.has_del_same]
      simp [mem_delB]
    · rw [Maps.has_del_other (fun h => e (bd_inj hy hx h)), h5 y hy]
      simp [mem_delB, e]
theorem SetM.put {w : World} {b n : Nat} {S : List Bd} (h : SetM w b n S) {x : Bd} (hx : BdW x) (hn : n < maxLen) :
    ∃ w', (Instr.mapUpdate 152 (.map (some b)) (bdA x) (.bool true)).run Tryd.prog w = .ok () w' ∧ SetM w' b (n + 1) (addB S x) ∧ w.grownBy w' (some b) := by
  obtain ⟨D, h1, h2, h3, h4, h5⟩ := h
  obtain ⟨w', hrun, ho, hg⟩ := h1.update bd_law Tryd.underlying152 hn (bd_reads x hx) (plainElem_bool Tryd.underlying4 (x := true))
  exact ⟨w', hrun, ⟨_, ho, set_put hx h2 h3 h4 h5⟩, hg⟩
theorem SetM.drop {w : World} {b n : Nat} {S : List Bd} (h : SetM w b n S) {x : Bd} (hx : BdW x) (ty : TypeId) :
    ∃ w', (Builtin.delete_ #[152, 91] ty #[.map (some b), bdA x]).run Tryd.prog w = .ok (.tuple #[]) w' ∧ SetM w' b n (delB S x) ∧ w.grownBy w' (some b) := by
  obtain ⟨D, h1, h2, h3, h4, h5⟩ := h
  obtain ⟨w', hrun, ho, hg⟩ := h1.drop bd_law Tryd.underlying152 (bd_reads x hx) ty
  exact ⟨w', hrun, ⟨_, ho, set_del hx h2 h3 h4 h5⟩, hg.grown⟩
theorem SetM.len {w : World} {b n : Nat} {S : List Bd} (h : SetM w b n S) (ty : TypeId) : (Builtin.len_ #[152] ty #[.map (some b)]).run Tryd.prog w = .ok (.int .i64 S.length) w := by
  obtain ⟨D, h1, h2, h3, h4, h5⟩ := h
  rw [h1.len Tryd.underlying152 ty, h3.2]
end Go.Proofs.YtodmbcoobjcooaaDoor
