/-
  The systems of the examples: their edges, their least sums. No condition.
-/
import Derived.Test.YtodmbcoobjcooaaDoorCkTurned
namespace Go.Proofs.YtodmbcoobjcooaaDoor
open Go Go.RowKit Go.Shelf
def tk0 : Tk := { slip := 10, drift := 0, jumps := [], times := [100, 160] }
def tk1 : Tk := { slip := 3, drift := 0, jumps := [], times := [95, 158] }
def pairU : Sy := { tracks := [tk0, tk1], ties := [], window := 2 }
def pairT : Sy := { tracks := [tk0, tk1], ties := [{ a := ⟨0, 0⟩, b := ⟨1, 0⟩ }], window := 2 }
def one0 : Sy := { tracks := [tk0], ties := [], window := 0 }
def one1 : Sy := { tracks := [tk1], ties := [], window := 0 }
/-- Where a walk along some edges ends, and its sum. -/
def walkTo (E : List Eg) : Nat → List Nat → Option (Nat × Int)
  | u, [] => some (u, 0)
  | u, i :: l => match E[i]? with
    | some e => if e.1 = u then (walkTo E e.2.1 l).map fun x => (x.1, e.2.2 + x.2) else none
    | none => none
theorem walkTo_wk {E : List Eg} : ∀ (l : List Nat) (u v : Nat) (s : Int), walkTo E u l = some (v, s) → Wk E u v s
  | [], u, v, s, h => by
    simp only [walkTo, Option.some.injEq, Prod.mk.injEq] at h
    obtain ⟨rfl, rfl⟩ := h
    exact .nil _
  | i :: l, u, v, s, h => by
    unfold walkTo at h
    cases he : E[i]? with
    | none => rw [he] at h; cases h
    | some e =>
      rw [he] at h
      simp only at h
      split at h
      · rename_i hu
        cases hw : walkTo E e.2.1 l with
        | none => rw [hw] at h; cases h
        | some x =>
          rw [hw] at h
          simp only [Option.map_some, Option.some.injEq, Prod.mk.injEq] at h
          obtain ⟨rfl, rfl⟩ := h
          have h2 := walkTo_wk l e.2.1 x.1 x.2 hw
          have h1 := Wk.one (List.mem_of_getElem? he)
          rw [hu] at h1
          exact h1.trans h2
      · cases h
def numF (p : List Int) : Nat → Int := fun v => p[v]?.getD 0
/-- Some numbers are the least sums: the walks show it. -/
def certB (E : List Eg) (n src : Nat) (p : List Int) (paths : List (List Nat)) : Bool :=
  decide (numF p src = 0) && (List.range n).all (fun v => decide (-(n * 22001) ≤ numF p v) && decide (numF p v ≤ n * 22001) && decide (walkTo E src (paths[v]?.getD []) = some (v, numF p v))) && E.all fun e => decide (numF p e.2.1 ≤ numF p e.1 + e.2.2)
theorem cert_dist {E : List Eg} {n src : Nat} {p : List Int} {paths : List (List Nat)} (h : certB E n src p paths = true) : Dist E n src 22001 (numF p) := by
  unfold certB at h
  simp only [Bool.and_eq_true, decide_eq_true_eq, List.all_eq_true, List.mem_range] at h
  obtain ⟨⟨h1, h2⟩, h3⟩ := h
  exact ⟨h1, fun v hv => (h2 v hv).1.1, fun v hv _ => (h2 v hv).1.2, fun v hv _ => walkTo_wk _ _ _ _ (h2 v hv).2, fun e he _ => h3 e he⟩
theorem cert_closes {E : List Eg} {n src : Nat} {p : List Int} {paths : List (List Nat)} (h : certB E n src p paths = true) : Closes E := by
  unfold certB at h
  simp only [Bool.and_eq_true, decide_eq_true_eq, List.all_eq_true, List.mem_range] at h
  exact ⟨numF p, h.2⟩
theorem dist_T : Dist (egs pairT) 5 0 22001 (numF [0, 100, 161, 98, 161]) := cert_dist (paths := [[], [4, 15], [4, 15, 9], [4], [6]]) (by decide +kernel)
theorem dist_Tb : Dist (turnE (egs pairT)) 5 0 22001 (numF [0, -90, -150, -92, -155]) := cert_dist (paths := [[], [1], [3], [5], [7]]) (by decide +kernel)
theorem dist_U3b : Dist (turnE (egs pairU)) 5 3 22001 (numF [98, 8, -52, 0, -62]) := cert_dist (paths := [[4], [4, 1], [4, 3], [], [13]]) (by decide +kernel)
theorem dist_o0 : Dist (egs one0) 3 0 22001 (numF [0, 110, 170]) := cert_dist (paths := [[], [0], [2]]) (by decide +kernel)
theorem dist_o0_1 : Dist (egs one0) 3 1 22001 (numF [-90, 0, 61]) := cert_dist (paths := [[1], [], [5]]) (by decide +kernel)
theorem dist_o1 : Dist (egs one1) 3 0 22001 (numF [0, 98, 161]) := cert_dist (paths := [[], [0], [2]]) (by decide +kernel)
theorem dist_o1_1 : Dist (egs one1) 3 1 22001 (numF [-92, 0, 64]) := cert_dist (paths := [[1], [], [5]]) (by decide +kernel)
theorem dist_o1_2 : Dist (egs one1) 3 2 22001 (numF [-155, -62, 0]) := cert_dist (paths := [[3], [6], []]) (by decide +kernel)
theorem dist_U : Dist (egs pairU) 5 0 22001 (numF [0, 110, 170, 98, 161]) := cert_dist (paths := [[], [0], [2], [4], [6]]) (by decide +kernel)
theorem closes_pairU : Closes (egs pairU) := cert_closes (n := 5) (src := 0) (p := [0, 110, 170, 98, 161]) (paths := [[], [0], [2], [4], [6]]) (by decide +kernel)
theorem ok_pairU : Ok pairU := by unfold Ok; decide +kernel
theorem nPl_pairU : nPl pairU = 5 := by decide +kernel
theorem closes_pairT : Closes (egs pairT) := cert_closes (n := 5) (src := 0) (p := [0, 100, 161, 98, 161]) (paths := [[], [4, 15], [4, 15, 9], [4], [6]]) (by decide +kernel)
theorem ok_pairT : Ok pairT := by unfold Ok; decide +kernel
theorem nPl_pairT : nPl pairT = 5 := by decide +kernel
theorem closes_one0 : Closes (egs one0) := cert_closes (n := 3) (src := 0) (p := [0, 110, 170]) (paths := [[], [0], [2]]) (by decide +kernel)
theorem ok_one0 : Ok one0 := by unfold Ok; decide +kernel
theorem nPl_one0 : nPl one0 = 3 := by decide +kernel
theorem closes_one1 : Closes (egs one1) := cert_closes (n := 3) (src := 0) (p := [0, 98, 161]) (paths := [[], [0], [2]]) (by decide +kernel)
theorem ok_one1 : Ok one1 := by unfold Ok; decide +kernel
theorem nPl_one1 : nPl one1 = 3 := by decide +kernel
theorem smp_T {dd db : Nat → Int} (h1 : Dist (egs pairT) (nPl pairT) 0 22001 dd) (h2 : Dist (turnE (egs pairT)) (nPl pairT) 0 22001 db) : dd 1 = 100 ∧ dd 2 = 161 ∧ db 1 = -90 ∧ db 2 = -150 := by
  have he := egs_ok ok_pairT
  rw [nPl_pairT] at h1 h2 he
  have a := fun v hv => h1.unique dist_T he (by omega) (by unfold NB; omega) (v := v) hv
  have b := fun v hv => h2.unique dist_Tb (turnE_ok he) (by omega) (by unfold NB; omega) (v := v) hv
  exact ⟨a 1 (by omega), a 2 (by omega), b 1 (by omega), b 2 (by omega)⟩
theorem smp_U {db : Nat → Int} (h2 : Dist (turnE (egs pairU)) (nPl pairU) 3 22001 db) : db 2 = -52 := by
  have he := egs_ok ok_pairU
  rw [nPl_pairU] at h2 he
  exact h2.unique dist_U3b (turnE_ok he) (by omega) (by unfold NB; omega) (by omega)
theorem smp_one0 {d : Nat → Int} (h : Dist (egs one0) (nPl one0) 0 22001 d) : d 0 = 0 ∧ d 1 = 110 ∧ d 2 = 170 := by
  have he := egs_ok ok_one0
  rw [nPl_one0] at h he
  have a := fun v hv => h.unique dist_o0 he (by omega) (by unfold NB; omega) (v := v) hv
  exact ⟨a 0 (by omega), a 1 (by omega), a 2 (by omega)⟩
theorem smp_one0_1 {d : Nat → Int} (h : Dist (egs one0) (nPl one0) 1 22001 d) : d 0 = -90 ∧ d 1 = 0 ∧ d 2 = 61 := by
  have he := egs_ok ok_one0
  rw [nPl_one0] at h he
  have a := fun v hv => h.unique dist_o0_1 he (by omega) (by unfold NB; omega) (v := v) hv
  exact ⟨a 0 (by omega), a 1 (by omega), a 2 (by omega)⟩
theorem smp_one1 {d : Nat → Int} (h : Dist (egs one1) (nPl one1) 0 22001 d) : d 0 = 0 ∧ d 1 = 98 ∧ d 2 = 161 := by
  have he := egs_ok ok_one1
  rw [nPl_one1] at h he
  have a := fun v hv => h.unique dist_o1 he (by omega) (by unfold NB; omega) (v := v) hv
  exact ⟨a 0 (by omega), a 1 (by omega), a 2 (by omega)⟩
theorem smp_one1_1 {d : Nat → Int} (h : Dist (egs one1) (nPl one1) 1 22001 d) : d 0 = -92 ∧ d 1 = 0 ∧ d 2 = 64 := by
  have he := egs_ok ok_one1
  rw [nPl_one1] at h he
  have a := fun v hv => h.unique dist_o1_1 he (by omega) (by unfold NB; omega) (v := v) hv
  exact ⟨a 0 (by omega), a 1 (by omega), a 2 (by omega)⟩
theorem smp_one1_2 {d : Nat → Int} (h : Dist (egs one1) (nPl one1) 2 22001 d) : d 0 = -155 ∧ d 1 = -62 ∧ d 2 = 0 := by
  have he := egs_ok ok_one1
  rw [nPl_one1] at h he
  have a := fun v hv => h.unique dist_o1_2 he (by omega) (by unfold NB; omega) (v := v) hv
  exact ⟨a 0 (by omega), a 1 (by omega), a 2 (by omega)⟩
end Go.Proofs.YtodmbcoobjcooaaDoor
