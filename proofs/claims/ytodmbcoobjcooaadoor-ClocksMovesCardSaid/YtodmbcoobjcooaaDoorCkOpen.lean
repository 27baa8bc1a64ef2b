/-
  What all rows of this seat share, and the opening of a row's arguments: systems and tracks in memory.
-/
import Derived.Test.YtodmbcoobjcooaaDoorCkFirst
import Derived.Test.YtodmbcoobjcooaaDoorCkIter
import Derived.Test.YtodmbcoobjcooaaDoorCards
import Derived.Test.YtodmbcoobjcooaaDoorTie
import Derived.ProofKit
import Derived.OpenShut
import Derived.Carry
import Derived.Deep.DeepHandedRow
import Derived.Deep.Slices
import Derived.ChangeMaps5
import Derived.ChangeSlices
import Derived.Lib.SmallJoins
namespace Go.Proofs.YtodmbcoobjcooaaDoor
open Go Go.RowKit
open Go.ChangeShapes Go.WideShapes Go.ChangeAt Go.Deep
theorem row_own : ownKnob Tryd.prog.godebug = none := by kernel_rfl
theorem row_laidOut : laidOutB Tryd.prog = true := by kernel_rfl
/-- All arguments read behind the call as they read before. -/
theorem trodAll_keep {H : Type} {enc : TypeId × Value → H} {W W' : World} (hb : Below W.heap.size W W') : ∀ {ts : List TypeId} {vs : List Value} {ds : List (DataW H)} {ps : List MemPlace},
    DataW.TrodAll enc Tryd.prog W 0 (fun _ => true) true ts vs ds ps → (∀ t ∈ ts, Tryd.prog.readableRec t = true ∧ t < Tryd.prog.types.size) → (∀ x ∈ ps, x.block < W.heap.size) →
    DataW.TrodAll enc Tryd.prog W' 0 (fun b => decide (b < W.heap.size)) true ts vs ds ps
  | [], vs, ds, ps, h, _, _ => by
    obtain ⟨rfl, rfl, rfl⟩ := trodAll_nil h
    exact trodAll_mk0
  | t :: ts, vs, ds, ps, h, hr, hp => by
    obtain ⟨v, vs, d, ds, p, q, rfl, rfl, rfl, h0, r0⟩ := trodAll_cons h
    exact trodAll_cons_mk (Below.trod row_laidOut (hr t (by simp)).1 (hr t (by simp)).2 h0 hb (fun x hx => hp x (by simp [hx])))
      (trodAll_keep hb r0 (fun u hu => hr u (by simp [hu])) (fun x hx => hp x (by simp [hx])))
/-- A law that has returned true, and has left all that was there as it was. -/
theorem post_true {H : Type} {enc : TypeId × Value → H} {f : Func} {s : ChangeSpec} {W W' : World} {args : Array Value} {ds gs : List (DataW H)} {before : List MemPlace}
    (hW : DataW.Whole enc Tryd.prog f.params.toList s.vars false W args.toList ds gs before) (hvars : s.vars = []) (hres : f.resultTypes = #[4])
    (hspec : (s.fn H (ds ++ gs)).results = [.lit (.bool true)] ∧ (s.fn H (ds ++ gs)).args = ds ∧ (s.fn H (ds ++ gs)).vars = [])
    (hread : ∀ t ∈ f.params.toList, Tryd.prog.readableRec t = true ∧ t < Tryd.prog.types.size) (hb : Below W.heap.size W W') :
    s.post enc Tryd.prog f false true false false W args (.bool true) W' := by
  have hW' := hW
  obtain ⟨p, q, hA, hV, rfl, _, _⟩ := hW
  rw [hvars] at hV
  obtain ⟨rfl, rfl⟩ := trodVars_none hV
  have hlt : ∀ x ∈ p, x.block < W.heap.size := fun x hx => by simpa using hW'.lt x (by simp [hx])
  refine ⟨_, _, _, [], p, [], hW', ?_, ?_, ?_, hb.frame _, fun h => by cases h⟩
  · rw [hres, hspec.1]
    exact trodAll_mk1 (shut_bool Tryd.underlying4 true)
  · rw [hspec.2.1]
    exact trodAll_keep hb hA hread hlt
  · rw [hspec.2.2, hvars]
    rfl
def begCells : Obj → Obj
  | .cells _ t fz => .cells #[.int .i64 (-1), .int .i64 0] t fz
  | o => o
/-- A world for the witnesses: the settled one, beginning holding what the program's text lays. -/
noncomputable def laidWorld (os : Os) : World :=
  { World.holding Tryd.prog os ⟨#[], #[], []⟩ with heap := (World.holding Tryd.prog os ⟨#[], #[], []⟩).heap.modify 0 begCells }
theorem cells_ref : Tryd.prog.cellsOf 53 = 2 := by kernel_rfl
theorem cells_track : Tryd.prog.cellsOf 30 = 4 := by kernel_rfl
theorem cells_clock : Tryd.prog.cellsOf 28 = 3 := by kernel_rfl
theorem cells_tie : Tryd.prog.cellsOf 79 = 4 := by kernel_rfl
theorem cells_sys : Tryd.prog.cellsOf 25 = 3 := by kernel_rfl
theorem one_int : Tryd.prog.cellsOf 3 = 1 := by kernel_rfl
theorem one_ints : Tryd.prog.cellsOf 26 = 1 := by kernel_rfl
theorem add_off (b off k : Nat) : (⟨b, off, none⟩ : Addr).add k = ⟨b, off + k, none⟩ := by unfold Addr.add; split <;> simp_all
theorem list2 {α : Type} : ∀ {l : List α}, l.length = 2 → ∃ a b, l = [a, b]
  | [a, b], _ => ⟨a, b, rfl⟩
theorem list3 {α : Type} : ∀ {l : List α}, l.length = 3 → ∃ a b c, l = [a, b, c]
  | [a, b, c], _ => ⟨a, b, c, rfl⟩
theorem list4 {α : Type} : ∀ {l : List α}, l.length = 4 → ∃ a b c d, l = [a, b, c, d]
  | [a, b, c, d], _ => ⟨a, b, c, d, rfl⟩
theorem each_choose {α : Type} [Inhabited α] {n : Nat} {p : Nat → α → Prop} (h : ∀ i, i < n → ∃ x, p i x) : ∃ q : Nat → α, ∀ i, i < n → p i (q i) :=
  ⟨fun i => if hi : i < n then Classical.choose (h i hi) else default, fun i hi => by simp only [hi, dif_pos]; exact Classical.choose_spec (h i hi)⟩
/-- Two numbers. -/
theorem open_rf {H : Type} {enc : TypeId × Value → H} {W : World} {fuel : Nat} {v0 v1 : Value} {y : DataW H × List MemPlace} (h : DataW.trod enc Tryd.prog W 0 (fun _ => true) true fuel 53 [v0, v1] = some y) : ∃ r : Rf, v0 = .int .i64 r.log ∧ v1 = .int .i64 r.line := by
  obtain ⟨xs, k, hk, hxy, _, hxl, hfl⟩ := DataW.trod_struct Tryd.underlying53 h
  obtain ⟨y0, y1, rfl⟩ := list2 (show xs.length = 2 from hxl)
  have f0 := hfl 0 _ rfl
  have f1 := hfl 1 _ rfl
  simp [one_int] at f0 f1
  obtain ⟨z0, e0, _, _⟩ := DataW.trod_int Tryd.underlying3 f0
  obtain ⟨z1, e1, _, _⟩ := DataW.trod_int Tryd.underlying3 f1
  simp at e0 e1
  exact ⟨⟨z0, z1⟩, e0, e1⟩
theorem open_ints1 {H : Type} {enc : TypeId × Value → H} {W : World} {fuel : Nat} {v : Value} {y : DataW H × List MemPlace} (h : DataW.trod enc Tryd.prog W 0 (fun _ => true) true fuel 26 [v] = some y) : ∃ A c l, v = .slice A (List.length l) c ∧ IntsA W A l := by
  rcases open_ints Tryd.underlying26 Tryd.underlying3 one_int h with ⟨hcs, _⟩ | ⟨a, len, cap, zs, hcs, _, h1, h2, hzl, _, hc, _⟩
  · simp only [List.cons.injEq, and_true] at hcs
    subst hcs
    exact ⟨none, 0, [], rfl, IntsA.nil _ _⟩
  · simp only [List.cons.injEq, and_true] at hcs
    subst hcs
    unfold maxLen at h2
    simp only [if_true] at hzl
    have hl : (zs.take len).length = len := by rw [List.length_take]; omega
    refine ⟨some a, cap, zs.take len, by rw [hl], ⟨by rw [hl]; omega, fun h0 => ?_⟩⟩
    rw [hl] at h0
    obtain ⟨b, off, spot⟩ := a
    have hs : spot = none := by simpa [Addr.add] using World.cell?_spot (hc 0 (by omega))
    subst hs
    have hcell : ∀ i, i < len → W.cell? ⟨b, off + i, none⟩ = some (.int .i64 ((zs.take len)[i]?.getD 0)) := fun i hi => by
      have h3 := hc i (by omega)
      rw [add_off] at h3
      rw [h3, List.getElem?_take, if_pos hi, List.getElem?_eq_getElem (by omega), List.getD_eq_getElem?_getD, List.getElem?_eq_getElem (by omega)]
    exact ⟨b, off, rfl, lt_of_cell (hcell 0 h0), fun i hi => hcell i (by rw [hl] at hi; exact hi)⟩
theorem open_tk {H : Type} {enc : TypeId × Value → H} {W : World} {fuel : Nat} {v0 v1 v2 v3 : Value} {y : DataW H × List MemPlace} (h : DataW.trod enc Tryd.prog W 0 (fun _ => true) true fuel 30 [v0, v1, v2, v3] = some y) :
    ∃ (t : Tk) (JA : Option Addr) (jc : Nat) (TA : Option Addr) (tc : Nat), v0 = .int .i64 t.slip ∧ v1 = .int .i64 t.drift ∧ v2 = .slice JA t.jumps.length jc ∧ v3 = .slice TA t.times.length tc ∧ TkM W JA TA t := by
  obtain ⟨y0, y1, n, _, _, f0, f1⟩ := trod_struct2 Tryd.underlying30 h
  simp [one_ints, cells_clock] at f0 f1
  obtain ⟨xs, k, hk, hxy, _, hxl, hfl⟩ := DataW.trod_struct Tryd.underlying28 f0
  obtain ⟨u0, u1, u2, rfl⟩ := list3 (show xs.length = 3 from hxl)
  have g0 := hfl 0 _ rfl
  have g1 := hfl 1 _ rfl
  have g2 := hfl 2 _ rfl
  simp [one_int, one_ints] at g0 g1 g2
  obtain ⟨z0, e0, _, _⟩ := DataW.trod_int Tryd.underlying3 g0
  obtain ⟨z1, e1, _, _⟩ := DataW.trod_int Tryd.underlying3 g1
  obtain ⟨JA, jc, js, e2, hJ⟩ := open_ints1 g2
  obtain ⟨TA, tc, ts, e3, hT⟩ := open_ints1 f1
  simp at e0 e1
  exact ⟨⟨z0, z1, js, ts⟩, JA, jc, TA, tc, e0, e1, e2, e3, hJ, hT⟩
theorem open_ti {H : Type} {enc : TypeId × Value → H} {W : World} {fuel : Nat} {v0 v1 v2 v3 : Value} {y : DataW H × List MemPlace} (h : DataW.trod enc Tryd.prog W 0 (fun _ => true) true fuel 79 [v0, v1, v2, v3] = some y) :
    ∃ t : Ti, v0 = .int .i64 t.a.log ∧ v1 = .int .i64 t.a.line ∧ v2 = .int .i64 t.b.log ∧ v3 = .int .i64 t.b.line := by
  obtain ⟨y0, y1, n, _, _, f0, f1⟩ := trod_struct2 Tryd.underlying79 h
  simp [cells_ref] at f0 f1
  obtain ⟨a, e0, e1⟩ := open_rf f0
  obtain ⟨b, e2, e3⟩ := open_rf f1
  exact ⟨⟨a, b⟩, e0, e1, e2, e3⟩
set_option maxRecDepth 100000 in
theorem open_tks {H : Type} {enc : TypeId × Value → H} {W : World} {fuel : Nat} {v : Value} {y : DataW H × List MemPlace} (h : DataW.trod enc Tryd.prog W 0 (fun _ => true) true fuel 22 [v] = some y) : ∃ A c l, v = .slice A (List.length l) c ∧ TksA W A l := by
  rcases open_slice Tryd.underlying22 h with ⟨hcs, _⟩ | ⟨a, len, cap, m, k, D, Pl, hcs, _, hlc, hmax, hmm, _, hx⟩
  · simp only [List.cons.injEq, and_true] at hcs
    subst hcs
    exact ⟨none, 0, [], rfl, by simp, fun h => absurd h (by simp)⟩
  · simp only [List.cons.injEq, and_true] at hcs
    subst hcs
    simp only [if_true] at hmm
    subst hmm
    have hsp : 0 < len → a.spot = none := fun h0 => by
      obtain ⟨cs', g1, g2⟩ := hx 0 (by omega)
      rw [cells_track] at g1
      obtain ⟨_, hlen, hcell⟩ := World.cells?_some g1
      obtain ⟨v0, v1, v2, v3, rfl⟩ := list4 hlen
      have c0 := hcell 0 (by omega)
      have h9 := World.cell?_spot c0
      simpa [Addr.add] using h9
    have each : ∀ i, i < len → ∃ t : Tk, a.spot = none ∧ TkC W a.block (a.off + i * 4) t := by
      intro i hi
      obtain ⟨cs', g1, g2⟩ := hx i (by omega)
      rw [cells_track] at g1
      obtain ⟨_, hlen, hcell⟩ := World.cells?_some g1
      obtain ⟨v0, v1, v2, v3, rfl⟩ := list4 hlen
      obtain ⟨t, JA, jc, TA, tc, rfl, rfl, rfl, rfl, hJ, hT⟩ := open_tk g2
      have c0 := hcell 0 (by omega)
      have c1 := hcell 1 (by omega)
      have c2 := hcell 2 (by omega)
      have c3 := hcell 3 (by omega)
      obtain ⟨b, off, spot⟩ := a
      have hs : spot = none := hsp (by omega)
      subst hs
      rw [add_off, add_off] at c0 c1 c2 c3
      exact ⟨t, rfl, JA, jc, TA, tc, by simpa using c0, by simpa using c1, by simpa using c2, by simpa using c3, hJ, hT⟩
    obtain ⟨q, hq⟩ := each_choose each
    have hll : ((List.range len).map q).length = len := by simp
    unfold maxLen at hmax
    refine ⟨some a, m, (List.range len).map q, by rw [hll], ⟨by rw [hll]; omega, fun h0 => ?_⟩⟩
    rw [hll] at h0
    obtain ⟨b, off, spot⟩ := a
    have hs := (hq 0 h0).1
    dsimp only at hs
    subst hs
    refine ⟨b, off, rfl, ?_, fun i hi => ?_⟩
    · obtain ⟨_, _, _, _, hc, _⟩ := (hq 0 h0).2
      exact lt_of_cell hc
    · rw [hll] at hi
      rw [List.getElem?_map, List.getElem?_range hi]
      exact (hq i hi).2
set_option maxRecDepth 100000 in
theorem open_tis {H : Type} {enc : TypeId × Value → H} {W : World} {fuel : Nat} {v : Value} {y : DataW H × List MemPlace} (h : DataW.trod enc Tryd.prog W 0 (fun _ => true) true fuel 23 [v] = some y) : ∃ A c l, v = .slice A (List.length l) c ∧ TisA W A l := by
  rcases open_slice Tryd.underlying23 h with ⟨hcs, _⟩ | ⟨a, len, cap, m, k, D, Pl, hcs, _, hlc, hmax, hmm, _, hx⟩
  · simp only [List.cons.injEq, and_true] at hcs
    subst hcs
    exact ⟨none, 0, [], rfl, TisA.nil _ _⟩
  · simp only [List.cons.injEq, and_true] at hcs
    subst hcs
    simp only [if_true] at hmm
    subst hmm
    have hsp : 0 < len → a.spot = none := fun h0 => by
      obtain ⟨cs', g1, g2⟩ := hx 0 (by omega)
      rw [cells_tie] at g1
      obtain ⟨_, hlen, hcell⟩ := World.cells?_some g1
      obtain ⟨v0, v1, v2, v3, rfl⟩ := list4 hlen
      have c0 := hcell 0 (by omega)
      have h9 := World.cell?_spot c0
      simpa [Addr.add] using h9
    have each : ∀ i, i < len → ∃ t : Ti, a.spot = none ∧ TiC W a.block (a.off + i * 4) t := by
      intro i hi
      obtain ⟨cs', g1, g2⟩ := hx i (by omega)
      rw [cells_tie] at g1
      obtain ⟨_, hlen, hcell⟩ := World.cells?_some g1
      obtain ⟨v0, v1, v2, v3, rfl⟩ := list4 hlen
      obtain ⟨t, rfl, rfl, rfl, rfl⟩ := open_ti g2
      have c0 := hcell 0 (by omega)
      have c1 := hcell 1 (by omega)
      have c2 := hcell 2 (by omega)
      have c3 := hcell 3 (by omega)
      obtain ⟨b, off, spot⟩ := a
      have hs : spot = none := hsp (by omega)
      subst hs
      rw [add_off, add_off] at c0 c1 c2 c3
      exact ⟨t, rfl, by simpa using c0, by simpa using c1, by simpa using c2, by simpa using c3⟩
    obtain ⟨q, hq⟩ := each_choose each
    have hll : ((List.range len).map q).length = len := by simp
    unfold maxLen at hmax
    refine ⟨some a, m, (List.range len).map q, by rw [hll], ⟨by rw [hll]; omega, fun h0 => ?_⟩⟩
    rw [hll] at h0
    obtain ⟨b, off, spot⟩ := a
    have hs := (hq 0 h0).1
    dsimp only at hs
    subst hs
    refine ⟨b, off, rfl, lt_of_cell (hq 0 h0).2.1, fun i hi => ?_⟩
    rw [hll] at hi
    rw [List.getElem?_map, List.getElem?_range hi]
    exact (hq i hi).2
set_option maxRecDepth 100000 in
theorem open_sys {H : Type} {enc : TypeId × Value → H} {W : World} {base : Nat} {v : Value} {d : DataW H} {p : List MemPlace} (hv : Value.okWide Tryd.prog W .any base 25 v) (h : DataW.Trod enc Tryd.prog W 0 (fun _ => true) true 25 v d p) :
    ∃ (s : Sy) (A D : Option Addr) (c m : Nat), v = .agg #[.slice A s.tracks.length c, .slice D s.ties.length m, .int .i64 s.window] ∧ SysM W A D s := by
  obtain ⟨v0, v1, v2, y0, y1, y2, n, rfl, rfl, _, g0, g1, g2⟩ := Go.Joins.open_agg3 Tryd.underlying25 (by kernel_rfl) cells_sys hv h
  obtain ⟨A, c, l, rfl, hA⟩ := open_tks g0
  obtain ⟨D, m, k, rfl, hD⟩ := open_tis g1
  obtain ⟨z, e2, _, _⟩ := DataW.trod_int Tryd.underlying3 g2
  simp at e2
  subst e2
  exact ⟨⟨l, k, z⟩, A, D, c, m, rfl, hA, hD⟩
set_option maxRecDepth 100000 in
theorem open_track {H : Type} {enc : TypeId × Value → H} {W : World} {base : Nat} {v : Value} {d : DataW H} {p : List MemPlace} (hv : Value.okWide Tryd.prog W .any base 30 v) (h : DataW.Trod enc Tryd.prog W 0 (fun _ => true) true 30 v d p) :
    ∃ (t : Tk) (JA : Option Addr) (jc : Nat) (TA : Option Addr) (tc : Nat), v = .agg #[.int .i64 t.slip, .int .i64 t.drift, .slice JA t.jumps.length jc, .slice TA t.times.length tc] ∧ TkM W JA TA t := by
  obtain ⟨cs, rfl, hsz⟩ := okWide_struct Tryd.underlying30 hv
  obtain ⟨c0, c1, c2, c3, rfl⟩ := Go.Joins.array4 (hsz.trans cells_track)
  obtain ⟨fuel, hf⟩ := h
  have hf2 : DataW.trod enc Tryd.prog W 0 (fun _ => true) true fuel 30 [c0, c1, c2, c3] = some (d, p) := hf
  obtain ⟨t, JA, jc, TA, tc, rfl, rfl, rfl, rfl, hT⟩ := open_tk hf2
  exact ⟨t, JA, jc, TA, tc, rfl, hT⟩
theorem beg_of_laid {W : World} (h : laidMet Tryd.prog [("pileup/clocks.beginning", Rows.laid_pileup_clocks_beginning)] W) : BegA W := by
  obtain ⟨ps, hv, _⟩ := h
  obtain ⟨g', t', cs, fuel, p, q, hg', ht', hvar, hd, _, _⟩ := hv
  obtain rfl : g' = 0 := Option.some.inj (hg'.symm.trans (show Tryd.prog.globalNamed "pileup/clocks.beginning" = some 0 by kernel_rfl))
  have hty : (Tryd.prog.globals[0]?).map (·.type) = some 53 := by kernel_rfl
  obtain rfl := Option.some.inj (hty.symm.trans ht')
  obtain ⟨xs, k, hk, hxy, hcl, hxl, hfl⟩ := DataW.trod_struct Tryd.underlying53 hd
  rw [cells_ref] at hcl
  obtain ⟨v0, v1, hcs⟩ := list2 hcl
  obtain ⟨y0, y1, rfl⟩ := list2 (show xs.length = 2 from hxl)
  have f0 := hfl 0 _ rfl
  have f1 := hfl 1 _ rfl
  rw [hcs] at f0 f1
  simp [one_int] at f0 f1
  obtain ⟨z0, e0, d0, _⟩ := DataW.trod_int Tryd.underlying3 f0
  obtain ⟨z1, e1, d1, _⟩ := DataW.trod_int Tryd.underlying3 f1
  simp at e0 e1
  subst e0 e1
  unfold World.var? at hvar
  rw [hg'] at hvar
  simp only [Option.bind_some] at hvar
  rw [d0, d1] at hxy
  simp [Rows.laid_pileup_clocks_beginning] at hxy
  obtain ⟨⟨e0, e1⟩, -⟩ := hxy
  split at hvar
  · rename_i cs2 t2 fz2 hheap
    obtain rfl := Option.some.inj hvar
    have hca : cs2 = #[Value.int .i64 z0, Value.int .i64 z1] := Array.ext' (by simpa using hcs)
    subst hca
    refine ⟨?_, ?_⟩
    · rw [cell_of_row W 0 0 _ _ _ hheap, e0]; rfl
    · rw [cell_of_row W 0 1 _ _ _ hheap, e1]; rfl
  · cases hvar
set_option maxRecDepth 100000 in
theorem open_tie {H : Type} {enc : TypeId × Value → H} {W : World} {base : Nat} {v : Value} {d : DataW H} {p : List MemPlace} (hv : Value.okWide Tryd.prog W .any base 79 v) (h : DataW.Trod enc Tryd.prog W 0 (fun _ => true) true 79 v d p) :
    ∃ t : Ti, v = .agg #[.int .i64 t.a.log, .int .i64 t.a.line, .int .i64 t.b.log, .int .i64 t.b.line] := by
  obtain ⟨cs, rfl, hsz⟩ := okWide_struct Tryd.underlying79 hv
  obtain ⟨c0, c1, c2, c3, rfl⟩ := Go.Joins.array4 (hsz.trans cells_tie)
  obtain ⟨fuel, hf⟩ := h
  have hf2 : DataW.trod enc Tryd.prog W 0 (fun _ => true) true fuel 79 [c0, c1, c2, c3] = some (d, p) := hf
  obtain ⟨t, rfl, rfl, rfl, rfl⟩ := open_ti hf2
  exact ⟨t, rfl⟩
set_option maxRecDepth 100000 in
theorem open_ref {H : Type} {enc : TypeId × Value → H} {W : World} {base : Nat} {v : Value} {d : DataW H} {p : List MemPlace} (hv : Value.okWide Tryd.prog W .any base 53 v) (h : DataW.Trod enc Tryd.prog W 0 (fun _ => true) true 53 v d p) :
    ∃ r : Rf, v = .agg #[.int .i64 r.log, .int .i64 r.line] := by
  obtain ⟨v0, v1, y0, y1, n, rfl, rfl, _, g0, g1⟩ := Go.Joins.open_agg2 Tryd.underlying53 (by kernel_rfl) cells_ref hv h
  obtain ⟨z0, e0, _, _⟩ := DataW.trod_int Tryd.underlying3 g0
  obtain ⟨z1, e1, _, _⟩ := DataW.trod_int Tryd.underlying3 g1
  simp at e0 e1
  subst e0 e1
  exact ⟨⟨z0, z1⟩, rfl⟩
section
open Go.Shelf
attribute [local go_sem] Oper.semAt_some
def FewP (e : Ending) : Prop := ∃ b : Bool, e = .returned (.bool b)
set_option maxRecDepth 100000 in
set_option maxHeartbeats 8000000 in
theorem law_few (s : Sy) (A D : Option Addr) (c d : Nat) (w : World) (hM : SysM w A D s) :
    Calls Tryd.prog 16 #[.agg #[.slice A s.tracks.length c, .slice D s.ties.length d, .int .i64 s.window]] w fun e w' => FewP e ∧ New w w' := by
  have n1 := (New.refl w).alloc (.cells #[.slice A s.tracks.length c, .slice D s.ties.length d, .int .i64 s.window] 25)
  have r1 := RowIs.new w 25 [.slice A s.tracks.length c, .slice D s.ties.length d, .int .i64 s.window]
  have hm := hM.1.1
  have hm2 := hM.2.1
  have HM := Lib.hid (hM.keep n1)
  have HN := Lib.hid n1
  have c0 := r1.cell (i := 0) rfl
  have c1 := r1.cell (i := 1) rfl
  clear hM n1 r1
  go_enter Tryd.func16, Tryd.ntmps16
  go_wp2_with fail
  go_loop [3, 4] (fun n i => ∃ (k : Nat) (z : Int), k ≤ s.tracks.length ∧ i = .int .i64 k ∧ n = .int .i64 z) (fun _ i => s.tracks.length - (intOf i).toNat)
  case atStart => exact ⟨0, 0, Nat.zero_le _, rfl, rfl⟩
  case round =>
    obtain ⟨k, z, hk, rfl, rfl⟩ := hrel
    by_cases hlt : k < s.tracks.length
    · obtain ⟨b, off, hA, -, hc⟩ := HM.out.1.2 (by omega)
      subst hA
      obtain ⟨JA, jc, TA, tc, z0, z1, z2, z3, -, -⟩ := hc k hlt
      have ik : (k : Int) < (s.tracks.length : Int) := by omega
      clear hc
      generalize s.tracks[k]?.getD default = t at *
      by_cases hj : 40 < t.jumps.length
      · have hj' : decide (40 < (t.jumps.length : Int)) = true := by simp; omega
        go_wp2_with fail
        go_ret
        exact ⟨⟨_, rfl⟩, HN.out⟩
      · have hj' : decide (40 < (t.jumps.length : Int)) = false := by simp; omega
        go_wp2_with fail
        go_round
        case rel => exact ⟨k + 1, _, by omega, by go_num, rfl⟩
        case measure => simp [intOf]; omega
    · obtain rfl : k = s.tracks.length := by omega
      by_cases h1 : z ≤ 40
      · have h1' : decide (z ≤ 40) = true := by simpa using h1
        by_cases h2 : s.tracks.length ≤ 100
        · have h2' : decide ((s.tracks.length : Int) ≤ 100) = true := by simp; omega
          by_cases h3 : s.ties.length ≤ 30
          · have h3' : decide ((s.ties.length : Int) ≤ 30) = true := by simp; omega
            go_wp2_with fail
            go_ret
            exact ⟨⟨_, rfl⟩, HN.out⟩
          · have h3' : decide ((s.ties.length : Int) ≤ 30) = false := by simp; omega
            by_cases h4 : 400 < s.ties.length
            · have h4' : decide (400 < (s.ties.length : Int)) = true := by simp; omega
              by_cases h5 : s.ties.length ≤ 500
              · have h5' : decide ((s.ties.length : Int) ≤ 500) = true := by simp; omega
                go_wp2_with fail
                go_ret
                exact ⟨⟨_, rfl⟩, HN.out⟩
              · have h5' : decide ((s.ties.length : Int) ≤ 500) = false := by simp; omega
                go_wp2_with fail
                go_ret
                exact ⟨⟨_, rfl⟩, HN.out⟩
            · have h4' : decide (400 < (s.ties.length : Int)) = false := by simp; omega
              go_wp2_with fail
              go_ret
              exact ⟨⟨_, rfl⟩, HN.out⟩
        · have h2' : decide ((s.tracks.length : Int) ≤ 100) = false := by simp; omega
          go_wp2_with fail
          go_ret
          exact ⟨⟨_, rfl⟩, HN.out⟩
      · have h1' : decide (z ≤ 40) = false := by simpa using h1
        go_wp2_with fail
        go_ret
        exact ⟨⟨_, rfl⟩, HN.out⟩
end
end Go.Proofs.YtodmbcoobjcooaaDoor
