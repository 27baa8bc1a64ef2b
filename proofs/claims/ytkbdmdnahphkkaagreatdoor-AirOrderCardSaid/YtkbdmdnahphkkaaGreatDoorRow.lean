/-
  What all rows of this seat share: MaxLen in every world of a row, the arguments carried behind the call, a law that returned true, the world of the witnesses.
-/
import Derived.Test.YtkbdmdnahphkkaaGreatDoorAwake
import Derived.Test.YtkbdmdnahphkkaaGreatDoorCards
import Derived.Test.YtkbdmdnahphkkaaGreatDoorTie
import Derived.ProofKit
import Derived.OpenShut
import Derived.Carry
import Derived.Deep.DeepHandedRow
import Derived.Deep.Slices
namespace Go.Proofs.YtkbdmdnahphkkaaGreatDoor
open Go.RowKit
open Go.ChangeShapes Go.WideShapes Go.ChangeAt
theorem row_own : ownKnob Tryz.prog.godebug = none := by kernel_rfl
theorem row_laidOut : laidOutB Tryz.prog = true := by kernel_rfl
/-- The library's variable MaxLen holds some int in every world of a row. -/
theorem max_of_shaped {W : World} (h : W.ShapedOpen Tryz.prog) : HasMax W := Tryz.laysM146.s1_3 W h
/-- All arguments read behind the call as they read before. -/
theorem trodAll_keep {H : Type} {enc : TypeId × Value → H} {W W' : World} (hb : Below W.heap.size W W') : ∀ {ts : List TypeId} {vs : List Value} {ds : List (DataW H)} {ps : List MemPlace},
    DataW.TrodAll enc Tryz.prog W 0 (fun _ => true) true ts vs ds ps → (∀ t ∈ ts, Tryz.prog.readableRec t = true ∧ t < Tryz.prog.types.size) → (∀ x ∈ ps, x.block < W.heap.size) →
    DataW.TrodAll enc Tryz.prog W' 0 (fun b => decide (b < W.heap.size)) true ts vs ds ps
  | [], vs, ds, ps, h, _, _ => by
    obtain ⟨rfl, rfl, rfl⟩ := trodAll_nil h
    exact trodAll_mk0
  | t :: ts, vs, ds, ps, h, hr, hp => by
    obtain ⟨v, vs, d, ds, p, q, rfl, rfl, rfl, h0, r0⟩ := trodAll_cons h
    exact trodAll_cons_mk (Below.trod row_laidOut (hr t (by simp)).1 (hr t (by simp)).2 h0 hb (fun x hx => hp x (by simp [hx])))
      (trodAll_keep hb r0 (fun u hu => hr u (by simp [hu])) (fun x hx => hp x (by simp [hx])))
/-- A law that has returned true, and has left all that was there as it was. -/
theorem post_true {H : Type} {enc : TypeId × Value → H} {f : Func} {s : ChangeSpec} {W W' : World} {args : Array Value} {ds gs : List (DataW H)} {before : List MemPlace}
    (hW : DataW.Whole enc Tryz.prog f.params.toList s.vars false W args.toList ds gs before) (hvars : s.vars = []) (hres : f.resultTypes = #[4])
    (hspec : (s.fn H (ds ++ gs)).results = [.lit (.bool true)] ∧ (s.fn H (ds ++ gs)).args = ds ∧ (s.fn H (ds ++ gs)).vars = [])
    (hread : ∀ t ∈ f.params.toList, Tryz.prog.readableRec t = true ∧ t < Tryz.prog.types.size) (hb : Below W.heap.size W W') :
    s.post enc Tryz.prog f false true false false W args (.bool true) W' := by
  have hW' := hW
  obtain ⟨p, q, hA, hV, rfl, _, _⟩ := hW
  rw [hvars] at hV
  obtain ⟨rfl, rfl⟩ := trodVars_none hV
  have hlt : ∀ x ∈ p, x.block < W.heap.size := fun x hx => by simpa using hW'.lt x (by simp [hx])
  refine ⟨_, _, _, [], p, [], hW', ?_, ?_, ?_, hb.frame _, fun h => by cases h⟩
  · rw [hres, hspec.1]
    exact trodAll_mk1 (shut_bool Tryz.underlying4 true)
  · rw [hspec.2.1]
    exact trodAll_keep hb hA hread hlt
  · rw [hspec.2.2, hvars]
    rfl
/-- The cells of a table of numbers, or of rows of numbers. -/
def litCells : DataW Unit → List Value
  | .lit (.int k n) => [Value.int k n]
  | _ => []
def rowCells : DataW Unit → List Value
  | .agg l => l.flatMap litCells
  | d => litCells d
def tabCells : DataW Unit → List Value
  | .agg l => l.flatMap rowCells
  | _ => []
def layTab (d : DataW Unit) : Obj → Obj
  | .cells _ t fz => .cells (tabCells d).toArray t fz
  | o => o
/-- A world for the witnesses: the settled one, the five tables holding what the program's text lays. -/
noncomputable def laidWorld (os : Os) : World :=
  { World.holding Tryz.prog os ⟨#[], #[], []⟩ with heap := (((((World.holding Tryz.prog os ⟨#[], #[], []⟩).heap.modify 1 (layTab Rows.laid_unicode_utf8_first)).modify 2 (layTab Rows.laid_unicode_utf8_acceptRanges)).modify 3 (layTab Rows.laid_internal_strconv_uint64pow10)).modify 4 (layTab Rows.laid_math_bits_deBruijn32tab)).modify 5 (layTab Rows.laid_math_bits_deBruijn64tab) }

end Go.Proofs.YtkbdmdnahphkkaaGreatDoor
