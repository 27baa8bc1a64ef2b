/-
  Before relax: the first sums; the deferred closure of spread where nothing panicked; a region that draws, with what it leaves named. No condition.
-/
import Derived.Test.YtodmbcoobjcooaaDoorCkRelax
import Derived.Recover
namespace Go.Proofs.YtodmbcoobjcooaaDoor
open Go Go.RowKit Go.Shelf
attribute [local go_sem] Oper.semAt_some
theorem region_cut {P : Program} {id : Nat} {ops : Array Oper} {Q : Exit → Act → World → Prop} {a : Act} {w : World} (R : Act → World → Prop) (hm : P.follows .mixedOrders = true)
    (h : wpAny P .any ops (NormQ R) ops.size (Array.replicate ops.size false) a w.drew) (hR : ∀ a w, R a w → Q .normal a w) : (Code.region id ops true).wp P Q a w :=
  wp_mono (wp_region_any hm h) (fun e a w h => by cases e <;> first | exact hR _ _ h | exact (show False from h).elim)
theorem WI.init (E : List Eg) (n src : Nat) : WI E n src (upd (fun _ => NB) src 0) (fun _ => -1) :=
  ⟨by rw [upd_same]; decide, fun _ => upd_same _ _ _, fun v _ => by unfold upd; split <;> simp [NB], fun v _ h _ => by
    by_cases e : v = src
    · exact e
    · exact absurd (upd_other _ _ e) h, fun v _ h => absurd rfl h, fun v _ h => by
    by_cases e : v = src
    · subst e; rw [upd_same]; exact .nil _
    · exact absurd (upd_other _ _ e) h, fun l v hl hL hB => by
    cases l with
    | nil => exact absurd rfl hl
    | cons i l =>
      obtain ⟨e, h1, _, _⟩ := hL
      have := hB i e (List.mem_cons_self ..) h1
      dsimp only at this
      omega⟩
/-- The rows of a new wave, the first k of them written. -/
def fil (k : Nat) (x : Int) : Nat → Int := fun j => if j < k then x else 0
theorem fil_zero (x : Int) : fil 0 x = fun _ => 0 := by funext j; simp [fil]
theorem fil_succ (k : Nat) (x : Int) : upd (fil k x) k x = fil (k + 1) x := by
  funext j
  unfold upd fil
  by_cases h : j = k
  · simp [h]
  · rw [if_neg h]
    by_cases h2 : j < k
    · rw [if_pos h2, if_pos (by omega)]
    · rw [if_neg h2, if_neg (by omega)]
theorem fnRow_congr {n : Nat} {f g : Nat → Int} (h : ∀ i, i < n → f i = g i) : fnRow n f = fnRow n g := by
  unfold fnRow
  apply List.map_congr_left
  intro i hi
  rw [h i (List.mem_range.1 hi)]
theorem fnRow_zero (n : Nat) : (fnRow n fun _ => 0).toArray = Array.replicate n (.int .i64 0) := by
  unfold fnRow
  rw [List.map_const', List.length_range]
  rfl
theorem WavA.congr {w0 W : World} {g sb bb n : Nat} {EA : Option Addr} {ec : Nat} {E : List Eg} {d b d' b' : Nat → Int} (h : WavA w0 W g sb bb n EA ec E d b) (h1 : ∀ i, i < n → d i = d' i) (h2 : ∀ i, i < n → b i = b' i) : WavA w0 W g sb bb n EA ec E d' b' :=
  ⟨h.new, h.egs, h.hg, h.hs, h.hb, h.gs, h.gb, h.ne, h.row, by rw [← fnRow_congr h1]; exact h.sums, by rw [← fnRow_congr h2]; exact h.bys⟩
theorem run_noLoop (w : World) : (Instr.typeAssert Value.nilIface 20 126 true).run Tryd.prog w = .ok (.tuple #[.slice none 0 0, .bool false]) w := by
  kernel_rfl
set_option maxRecDepth 100000 in
theorem catch_idle (p : Addr) (v : Value) (w : World) (hc : w.cell? p = some v) (hz : w.frozen? p = false) :
    CallsD Tryd.prog 120 #[.pointer (some p)] .returning w fun e u' w' => e = .returned (.tuple #[]) ∧ u' = .returning ∧ w' = w.setCell p (.slice none 0 0) := by
  refine callsD_of_wpS Tryd.func120 rfl fun c₀ cs hu => ?_
  apply wpS_region
  simp [wpOpsS, go_sem, recoverD, hu, Tryd.ntmps120, hc, hz, run_noLoop]
  cases c₀
  simp_all [bodyPostS, results, Tryd.results120]
end Go.Proofs.YtodmbcoobjcooaaDoor
