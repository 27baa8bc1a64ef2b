/-
  What all rows of this seat share: the tables in every world of a row, the arguments carried behind the call, a law that returned true, the world of the witnesses.
-/
import Derived.Test.YthodoabppkeidaaGreatDoorCpAwake
import Derived.Test.YthodoabppkeidaaGreatDoorCards
import Derived.Test.YthodoabppkeidaaGreatDoorTie
import Derived.ProofKit
import Derived.OpenShut
import Derived.Carry
import Derived.Deep.DeepHandedRow
import Derived.Deep.Slices
import Derived.ChangeMaps5
import Derived.Lib.SmallJoins
namespace Go.Proofs.YthodoabppkeidaaGreatDoor
open Go.RowKit
open Go.ChangeShapes Go.WideShapes Go.ChangeAt Go.Deep
theorem row_own : ownKnob Tryz.prog.godebug = none := by kernel_rfl
theorem row_laidOut : laidOutB Tryz.prog = true := by kernel_rfl
/-- All arguments read behind the call as they read before. -/
theorem trodAll_keep {H : Type} {enc : TypeId × Value → H} {W W' : World} (hb : Below W.heap.size W W') : ∀ {ts : List TypeId} {vs : List Value} {ds : List (DataW H)} {ps : List MemPlace},
    DataW.TrodAll enc Tryz.prog W 0 (fun _ => true) true ts vs ds ps → (∀ t ∈ ts, Tryz.prog.readableRec t = true ∧ t < Tryz.prog.types.size) → (∀ x ∈ ps, x.block < W.heap.size) →
    DataW.TrodAll enc Tryz.prog W' 0 (fun b => decide (b < W.heap.size)) true ts vs ds ps
  | [], vs, ds, ps, h, _, _ => by
    obtain ⟨rfl, rfl, rfl⟩ := trodAll_nil h
    exact trodAll_mk0
  | t :: ts, vs, ds, ps, h, hr, hp => by
    obtain ⟨v, vs, d, ds, p, q, rfl, rfl, rfl, h0, r0⟩ := trodAll_cons h
    exact trodAll_cons_mk (Below.trod row_laidOut (hr t (by simp)).1 (hr t (by simp)).2 h0 hb (fun x hx => hp x (by simp [hx])))
      (trodAll_keep hb r0 (fun u hu => hr u (by simp [hu])) (fun x hx => hp x (by simp [hx])))
/-- A law that has returned true, and has left all that was there as it was. -/
theorem post_true {H : Type} {enc : TypeId × Value → H} {f : Func} {s : ChangeSpec} {W W' : World} {args : Array Value} {ds gs : List (DataW H)} {before : List MemPlace}
    (hW : DataW.Whole enc Tryz.prog f.params.toList s.vars false W args.toList ds gs before) (hvars : s.vars = []) (hres : f.resultTypes = #[4])
    (hspec : (s.fn H (ds ++ gs)).results = [.lit (.bool true)] ∧ (s.fn H (ds ++ gs)).args = ds ∧ (s.fn H (ds ++ gs)).vars = [])
    (hread : ∀ t ∈ f.params.toList, Tryz.prog.readableRec t = true ∧ t < Tryz.prog.types.size) (hb : Below W.heap.size W W') :
    s.post enc Tryz.prog f false true false false W args (.bool true) W' := by
  have hW' := hW
  obtain ⟨p, q, hA, hV, rfl, _, _⟩ := hW
  rw [hvars] at hV
  obtain ⟨rfl, rfl⟩ := trodVars_none hV
  have hlt : ∀ x ∈ p, x.block < W.heap.size := fun x hx => by simpa using hW'.lt x (by simp [hx])
  refine ⟨_, _, _, [], p, [], hW', ?_, ?_, ?_, hb.frame _, fun h => by cases h⟩
  · rw [hres, hspec.1]
    exact trodAll_mk1 (shut_bool Tryz.underlying4 true)
  · rw [hspec.2.1]
    exact trodAll_keep hb hA hread hlt
  · rw [hspec.2.2, hvars]
    rfl
/-- The cells of a table of numbers, of rows of numbers, or of texts. -/
def litCells : DataW Unit → List Value
  | .lit (.int k n) => [Value.int k n]
  | .lit (.string s) => [Value.string ⟨s.toArray⟩]
  | _ => []
def rowCells : DataW Unit → List Value
  | .agg l => l.flatMap litCells
  | d => litCells d
def tabCells : DataW Unit → List Value
  | .agg l => l.flatMap rowCells
  | _ => []
def layTab (d : DataW Unit) : Obj → Obj
  | .cells _ t fz => .cells (tabCells d).toArray t fz
  | o => o
/-- A world for the witnesses: the settled one, the six tables holding what the program's text lays. -/
noncomputable def laidWorld (os : Os) : World :=
  { World.holding Tryz.prog os ⟨#[], #[], []⟩ with heap := ((((((World.holding Tryz.prog os ⟨#[], #[], []⟩).heap.modify 0 (layTab Rows.laid_pileup_copying_codes)).modify 2 (layTab Rows.laid_unicode_utf8_first)).modify 3 (layTab Rows.laid_unicode_utf8_acceptRanges)).modify 5 (layTab Rows.laid_internal_strconv_uint64pow10)).modify 6 (layTab Rows.laid_math_bits_deBruijn32tab)).modify 7 (layTab Rows.laid_math_bits_deBruijn64tab) }
/-- From the row's list, in which the table stands third, to the contract's fact. -/
theorem pow_of_laid {W : World} {n1 n2 : String} {d1 d2 : DataW Unit} {rest : List (String × DataW Unit)} (h : laidMet Tryz.prog ((n1, d1) :: (n2, d2) :: ("internal/strconv.uint64pow10", Lib.tabData .u64 Lib.pow10Tab) :: rest) W) : HasPow W := by
  obtain ⟨ps, hv, _⟩ := h
  obtain ⟨_, _, _, _, _, _, _, _, _, _, hv, _⟩ := hv
  obtain ⟨_, _, _, _, _, _, _, _, _, _, hv, _⟩ := hv
  obtain ⟨g', t', cs, fuel, p, q, hg', ht', hvar, hd, _, _⟩ := hv
  obtain rfl : g' = 5 := Option.some.inj (hg'.symm.trans (show Tryz.prog.globalNamed "internal/strconv.uint64pow10" = some 5 by kernel_rfl))
  have hty : (Tryz.prog.globals[5]?).map (·.type) = some 189 := by kernel_rfl
  obtain rfl := Option.some.inj (hty.symm.trans ht')
  unfold HasPow Lib.TabIs
  rw [hvar, ← Lib.cells_of_tab Tryz.underlying189 Tryz.underlying183 (by kernel_rfl) (by kernel_rfl) hd]
/-- An array of texts that reads as these texts holds them, cell for cell. -/
theorem cells_of_strs {H : Type} {enc : TypeId × Value → H} {P : Program} {w : World} {base : Nat} {sp : Nat → Bool} {held : Bool} {fuel : Nat} {t e : TypeId} {n : Nat} {cs : List Value} {zs : List Bytes} {p : List MemPlace}
    (ht : P.underlying t = some (.array n e)) (he : P.underlying e = some .string) (hce : P.cellsOf e = 1) (hct : P.cellsOf t = n)
    (h : DataW.trod enc P w base sp held fuel t cs = some (.agg (zs.map fun z => .lit (.string z)), p)) : cs = zs.map strV := by
  cases fuel with
  | zero => simp [DataW.trod] at h
  | succ fuel =>
    simp only [DataW.trod, ht, hce, hct, Nat.mul_one] at h
    split at h
    · rename_i hl
      obtain ⟨xs, hm, hx⟩ := Option.map_eq_some_iff.1 h
      have hxs : xs.map (·.1) = zs.map fun z => (DataW.lit (.string z) : DataW H) := by
        have := congrArg Prod.fst hx
        simpa using this
      have hxl : xs.length = n := by simpa using Lib.mapM_length hm
      have hzl : zs.length = n := by
        have := congrArg List.length hxs
        simp at this
        omega
      apply List.ext_getElem?
      intro i
      by_cases hi : i < n
      · obtain ⟨b, hb, hf⟩ := Lib.mapM_at hm i i (by simp [hi])
        obtain ⟨s, hc, rfl, _⟩ := DataW.trod_string he hf
        have h1 : cs[i]? = some (.string s) := by
          have := congrArg (·[0]?) hc
          simpa [List.getElem?_take, List.getElem?_drop] using this
        have h2 : (xs.map (·.1))[i]? = some (DataW.lit (.string s.data.toList) : DataW H) := by simp [hb]
        rw [hxs] at h2
        simp only [List.getElem?_map, Option.map_eq_some_iff, DataW.lit.injEq, Lit.string.injEq] at h2
        obtain ⟨z', hz', rfl⟩ := h2
        simp [h1, hz', strV, B]
      · rw [List.getElem?_eq_none (by omega), List.getElem?_eq_none (by simp; omega)]
    · cases h
/-- The codes, out of the row's list, in which they stand fifth. -/
theorem codes_of_laid {W : World} {n1 n2 n3 n4 : String} {d1 d2 d3 d4 : DataW Unit} {rest : List (String × DataW Unit)} (h : laidMet Tryz.prog ((n1, d1) :: (n2, d2) :: (n3, d3) :: (n4, d4) :: ("pileup/copying.codes", Rows.laid_pileup_copying_codes) :: rest) W) : W.var? Tryz.prog "pileup/copying.codes" = some (codesL.map strV).toArray := by
  obtain ⟨ps, hv, _⟩ := h
  obtain ⟨_, _, _, _, _, _, _, _, _, _, hv, _⟩ := hv
  obtain ⟨_, _, _, _, _, _, _, _, _, _, hv, _⟩ := hv
  obtain ⟨_, _, _, _, _, _, _, _, _, _, hv, _⟩ := hv
  obtain ⟨_, _, _, _, _, _, _, _, _, _, hv, _⟩ := hv
  obtain ⟨g', t', cs, fuel, p, q, hg', ht', hvar, hd, _, _⟩ := hv
  obtain rfl : g' = 0 := Option.some.inj (hg'.symm.trans (show Tryz.prog.globalNamed "pileup/copying.codes" = some 0 by kernel_rfl))
  have hty : (Tryz.prog.globals[0]?).map (·.type) = some 69 := by kernel_rfl
  obtain rfl := Option.some.inj (hty.symm.trans ht')
  have hd' : DataW.trod _ _ _ _ _ _ _ _ _ = some (.agg (codesL.map fun z => .lit (.string z)), p) := hd
  rw [hvar, ← cells_of_strs Tryz.underlying69 Tryz.underlying9 (by kernel_rfl) (by kernel_rfl) hd']
def strOf : Value → Bytes
  | .string s => s.data.toList
  | _ => []
set_option maxRecDepth 100000 in
/-- The tables in every world of a row: the codes as the row lays them, and some seven texts. -/
theorem tab_of_row {W : World} {n1 n2 n3 n4 : String} {d1 d2 d3 d4 : DataW Unit} {rest : List (String × DataW Unit)} (hS : W.ShapedOpen Tryz.prog) (h : laidMet Tryz.prog ((n1, d1) :: (n2, d2) :: (n3, d3) :: (n4, d4) :: ("pileup/copying.codes", Rows.laid_pileup_copying_codes) :: rest) W) : ∃ F, TabAt W F := by
  have hc := codes_of_laid h
  obtain ⟨cs, hh, hsz, _⟩ := hS.1 0 (Array.replicate 37 (Value.string ⟨#[]⟩)) 69 (of_decide_eq_true (by kernel_rfl)) (by kernel_rfl)
  obtain ⟨fs, hf, hfz, hr⟩ := hS.1 1 (Array.replicate 7 (Value.string ⟨#[]⟩)) 129 (of_decide_eq_true (by kernel_rfl)) (by kernel_rfl)
  have e1 : cs = (codesL.map strV).toArray := by
    unfold World.var? at hc
    rw [show Tryz.prog.globalNamed "pileup/copying.codes" = some 0 by kernel_rfl] at hc
    simp only [Option.bind_some, hh] at hc
    exact Option.some.inj hc
  obtain ⟨ts, hts, _, hall⟩ := hr (by kernel_rfl)
  have hct : Tryz.prog.cellTypes Tryz.prog.depth 129 = some (List.replicate 7 9) := by kernel_rfl
  obtain rfl := Option.some.inj (hct.symm.trans hts)
  have hcell : ∀ (i : Nat) (v : Value), fs[i]? = some v → ∃ s : ByteArray, v = .string s ∧ s.size ≤ 9223372036854775807 := fun i v hv => by
    obtain ⟨u, hu, hok⟩ := hall i v hv
    have hu' : u = 9 := by
      have := List.mem_of_getElem? hu
      exact List.eq_of_mem_replicate this
    subst hu'
    unfold Cell.ok at hok
    rw [Tryz.underlying9] at hok
    cases v <;> simp at hok
    case string s => exact ⟨s, rfl, by have : (s.size : Int) ≤ 9223372036854775807 := hok; omega⟩
  have e2 : fs = ((fs.toList.map strOf).map strV).toArray := by
    apply Array.ext'
    rw [List.map_map]
    symm
    apply List.ext_getElem?
    intro i
    rw [List.getElem?_map]
    cases hv : fs.toList[i]? with
    | none => rfl
    | some v =>
      obtain ⟨s, rfl, _⟩ := hcell i v (by rw [← Array.getElem?_toList]; exact hv)
      simp [strOf, strV, B]
  refine ⟨fs.toList.map strOf, ⟨_, by rw [hh, e1]⟩, ⟨_, by rw [hf]; congr 2⟩, by simp [hfz], fun x hx => ?_⟩
  obtain ⟨v, hv, rfl⟩ := List.mem_map.1 hx
  obtain ⟨i, hi, rfl⟩ := List.getElem_of_mem hv
  obtain ⟨s, hs, hz⟩ := hcell i _ (by rw [← Array.getElem?_toList, List.getElem?_eq_getElem hi])
  rw [hs]
  show s.data.toList.length ≤ _
  simpa using hz
end Go.Proofs.YthodoabppkeidaaGreatDoor
