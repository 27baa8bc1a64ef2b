/-
  A region that draws its order, by an invariant over which operations have come up, the slots and the world: one step for each operation serves every order. No condition but what the theorem says.
-/
import Derived.Test.YtkbdmdnahphkkaaGreatDoorRegion
namespace Go.Proofs.YtkbdmdnahphkkaaGreatDoor
open Go.RowKit Go.Sort
section
variable {P : Program} {ops : Array Oper} {md : Region.Mode} {Q : Exit → Act → World → Prop}
theorem count_set_false {l : List Bool} {i : Nat} (h : i < l.length) (hf : l[i]? = some false) : (l.set i true).count false + 1 = l.count false := by
  induction l generalizing i with
  | nil => simp at h
  | cons b l ih =>
    cases i with
    | zero =>
      simp at hf
      subst hf
      simp
    | succ i =>
      have := ih (i := i) (by simpa using h) (by simpa using hf)
      simp [List.count_cons]
      omega
theorem wpAny_of_inv {Inv : Array Bool → Act → World → Prop} (hend : ∀ listed a w, Inv listed a w → listed.size = ops.size → Region.ready md ops listed = [] → Q .normal a w)
    (hstep : ∀ listed a w i, Inv listed a w → listed.size = ops.size → i ∈ Region.ready md ops listed → wpOp P ops Q i (fun a' w' => Inv (listed.setIfInBounds i true) a' w') a w) :
    ∀ (f : Nat) (listed : Array Bool) (a : Act) (w : World), listed.size = ops.size → listed.toList.count false ≤ f → Inv listed a w → wpAny P md ops Q f listed a w := by
  intro f
  induction f with
  | zero =>
    intro listed a w hs hc h
    have hr : Region.ready md ops listed = [] := by
      rw [List.eq_nil_iff_forall_not_mem]
      intro i hi
      obtain ⟨h0, o, ho, _⟩ := mem_ready.1 hi
      have hlt : i < listed.size := by rw [hs]; exact (Array.getElem?_eq_some_iff.1 ho).1
      have h1 : listed.toList.count false = 0 := by omega
      rw [List.count_eq_zero] at h1
      have h2 : listed[i]'hlt = false := by simpa [hlt] using h0
      exact h1 (by rw [← h2]; exact Array.getElem_mem_toList hlt)
    exact ⟨hr, hend _ _ _ h hs hr⟩
  | succ f ih =>
    intro listed a w hs hc h
    refine ⟨fun hr => hend _ _ _ h hs hr, fun i hi => wpOp_mono (fun a' w' h' => ?_) (hstep _ _ _ i h hs hi)⟩
    refine ih _ _ _ (by simpa using hs) ?_ h'
    obtain ⟨h0, o, ho, _⟩ := mem_ready.1 hi
    have hlt : i < listed.size := by rw [hs]; exact (Array.getElem?_eq_some_iff.1 ho).1
    have := count_set_false (l := listed.toList) (i := i) (by simpa using hlt) (by simpa [hlt] using h0)
    rw [Array.toList_setIfInBounds]
    omega
/-- **A region by an invariant.** -/
theorem wp_region_inv {id : Nat} {a : Act} {w : World} {l : List Oper} (Inv : Array Bool → Act → World → Prop) (hm : P.follows .mixedOrders = true)
    (h0 : Inv (Array.replicate l.toArray.size false) a { w with drawn := w.drawn + 1 })
    (hstep : ∀ listed a w i, Inv listed a w → listed.size = l.toArray.size → i ∈ Region.ready .any l.toArray listed → wpOp P l.toArray Q i (fun a' w' => Inv (listed.setIfInBounds i true) a' w') a w)
    (hend : ∀ listed a w, Inv listed a w → listed.size = l.toArray.size → Region.ready .any l.toArray listed = [] → Q .normal a w) : (Code.region id l.toArray true).wp P Q a w :=
  wp_region_any hm (wpAny_of_inv hend hstep _ _ _ _ (by simp) (by simp) h0)
/-- Nothing is ready: all have come up (where the order of the text can be had). -/
theorem all_listed {n : Nat} {listed : Array Bool} (hs : listed.size = n) (h : ∀ j, j < n → (∀ i, i < j → listed.getD i false = true) → listed.getD j true = false → False) : ∀ j, j < n → listed.getD j false = true := by
  intro j
  induction j using Nat.strongRecOn with
  | _ j ih =>
    intro hj
    have h1 := h j hj (fun i hi => ih i hi (by omega))
    have hlt : j < listed.size := by omega
    cases hb : listed[j] with
    | true => simp [hlt, hb]
    | false => exact absurd (by simp [hlt, hb]) h1
theorem all_of_ready {listed : Array Bool} (hB : (List.range ops.size).all (fun j => match ops[j]? with | some o => o.after.all (fun e => decide (e.on < j)) | none => true) = true) (hs : listed.size = ops.size)
    (hr : Region.ready md ops listed = []) : ∀ j, j < ops.size → listed.getD j false = true := by
  refine all_listed hs (fun j hj ih h0 => ?_)
  have h1 := List.all_eq_true.1 hB j (List.mem_range.2 hj)
  have h2 : ops[j]? = some (ops[j]'hj) := Array.getElem?_eq_getElem hj
  simp only [h2] at h1
  have h3 : j ∈ Region.ready md ops listed := mem_ready.2 ⟨h0, _, h2, fun e he _ => ih e.on (by
    have := Array.all_eq_true_iff_forall_mem.1 h1 e he
    simpa using this)⟩
  rw [hr] at h3
  cases h3
theorem wpOp_plain {o : Oper} {i : Nat} {K : Act → World → Prop} {a : Act} {w : World} (ho : ops[i]? = some o) (hg : o.guard = none) (h : o.wp P a w K Q) : wpOp P ops Q i K a w := by
  unfold wpOp
  simp only [ho]
  rw [if_pos (by unfold Region.wanted; rw [hg])]
  exact .inl h
theorem listed_self {listed : Array Bool} {i : Nat} (h : i < listed.size) : (listed.setIfInBounds i true).getD i false = true := by simp [h]
theorem listed_set {listed : Array Bool} {i j : Nat} (h : (listed.setIfInBounds i true).getD j false = true) (hne : i ≠ j) : listed.getD j false = true := by rwa [getD_set_ne false hne] at h
end

end Go.Proofs.YtkbdmdnahphkkaaGreatDoor
