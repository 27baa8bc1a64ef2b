/-
  What the rows with layouts and exchanges share: their arguments opened, and the table of powers of ten out of the row's own list.
-/
import Derived.Test.YtcaljokcgfkppaaDoorRow
import Derived.Test.YtcaljokcgfkppaaDoorAirPX
import Derived.ChangeMaps5
import Derived.Lib.SmallJoins
namespace Go.Proofs.YtcaljokcgfkppaaDoor
open Go.RowKit
open Go.ChangeShapes Go.WideShapes Go.ChangeAt Go.Deep
theorem cells_layout : Tryd.prog.cellsOf 43 = 3 := by kernel_rfl
theorem cells_exchange : Tryd.prog.cellsOf 45 = 3 := by kernel_rfl
set_option maxRecDepth 100000 in
theorem open_layout {H : Type} {enc : TypeId × Value → H} {W : World} {base : Nat} {v : Value} {d : DataW H} {p : List MemPlace} (hv : Value.okWide Tryd.prog W .any base 43 v) (h : DataW.Trod enc Tryd.prog W 0 (fun _ => true) true 43 v d p) :
    ∃ x y z : Bool, v = layV x y z ∧ d = .agg [.lit (.bool x), .lit (.bool y), .lit (.bool z)] := by
  obtain ⟨v0, v1, v2, y0, y1, y2, n, rfl, rfl, _, g0, g1, g2⟩ := Go.Joins.open_agg3 Tryd.underlying43 (by kernel_rfl) cells_layout hv h
  obtain ⟨x, e0, rfl⟩ := DataW.trod_bool Tryd.underlying4 g0
  obtain ⟨y, e1, rfl⟩ := DataW.trod_bool Tryd.underlying4 g1
  obtain ⟨z, e2, rfl⟩ := DataW.trod_bool Tryd.underlying4 g2
  simp at e0 e1 e2
  subst e0 e1 e2
  exact ⟨x, y, z, rfl, rfl⟩
set_option maxRecDepth 100000 in
theorem open_exchange {H : Type} {enc : TypeId × Value → H} {W : World} {base : Nat} {v : Value} {d : DataW H} {p : List MemPlace} (hv : Value.okWide Tryd.prog W .any base 45 v) (h : DataW.Trod enc Tryd.prog W 0 (fun _ => true) true 45 v d p) :
    ∃ x y z : Int, v = exV x y z ∧ d = .agg [.lit (.int .i64 x), .lit (.int .i64 y), .lit (.int .i64 z)] := by
  obtain ⟨v0, v1, v2, y0, y1, y2, n, rfl, rfl, _, g0, g1, g2⟩ := Go.Joins.open_agg3 Tryd.underlying45 (by kernel_rfl) cells_exchange hv h
  obtain ⟨x, e0, rfl, _⟩ := DataW.trod_int Tryd.underlying3 g0
  obtain ⟨y, e1, rfl, _⟩ := DataW.trod_int Tryd.underlying3 g1
  obtain ⟨z, e2, rfl, _⟩ := DataW.trod_int Tryd.underlying3 g2
  simp at e0 e1 e2
  subst e0 e1 e2
  exact ⟨x, y, z, rfl, rfl⟩
/-- From the row's list, in which the table stands third, to the contract's fact. -/
theorem pow_of_laid {W : World} {n1 n2 : String} {d1 d2 : DataW Unit} {rest : List (String × DataW Unit)} (h : laidMet Tryd.prog ((n1, d1) :: (n2, d2) :: ("internal/strconv.uint64pow10", Lib.tabData .u64 Lib.pow10Tab) :: rest) W) : HasPow W := by
  obtain ⟨ps, hv, _⟩ := h
  obtain ⟨_, _, _, _, _, _, _, _, _, _, hv, _⟩ := hv
  obtain ⟨_, _, _, _, _, _, _, _, _, _, hv, _⟩ := hv
  obtain ⟨g', t', cs, fuel, p, q, hg', ht', hvar, hd, _, _⟩ := hv
  obtain rfl : g' = 3 := Option.some.inj (hg'.symm.trans (show Tryd.prog.globalNamed "internal/strconv.uint64pow10" = some 3 by kernel_rfl))
  have hty : (Tryd.prog.globals[3]?).map (·.type) = some 139 := by kernel_rfl
  obtain rfl := Option.some.inj (hty.symm.trans ht')
  unfold HasPow Lib.TabIs
  rw [hvar, ← Lib.cells_of_tab Tryd.underlying139 Tryd.underlying123 (by kernel_rfl) (by kernel_rfl) hd]

end Go.Proofs.YtcaljokcgfkppaaDoor
