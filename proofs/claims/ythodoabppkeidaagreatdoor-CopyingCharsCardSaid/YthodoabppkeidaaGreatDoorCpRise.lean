/-
  checkSerials, Chain, Rise of the program: the numbers that can stay, and the rising list of the fewest changes. Condition: the numbers lie in memory.
-/
import Derived.Test.YthodoabppkeidaaGreatDoorCpChains
namespace Go.Proofs.YthodoabppkeidaaGreatDoor
open Go Go.RowKit
/-- Whether all are serial numbers. -/
def serB (l : List Int) : Bool := l.all fun x => decide (0 ≤ x ∧ x ≤ 99999)
def serE (l : List Int) : Int := if 400 < l.length then 2 else if serB l = true then 0 else 1
theorem serB_iff {l : List Int} : serB l = true ↔ ∀ x ∈ l, 0 ≤ x ∧ x ≤ 99999 := by simp [serB]
theorem serE_ok {l : List Int} (h : serE l = 0) : l.length ≤ 400 ∧ ∀ x ∈ l, 0 ≤ x ∧ x ≤ 99999 := by
  unfold serE at h
  split at h
  · omega
  · split at h
    · exact ⟨by omega, serB_iff.1 (by assumption)⟩
    · omega
theorem ints_cell {w : World} {A : Option Addr} {n c : Nat} {l : List Int} (h : IntsAt w (.slice A n c) l) (h0 : 0 < l.length) : ∃ b off, A = some ⟨b, off, none⟩ ∧ n = l.length ∧ ∀ i (hi : i < l.length), w.cell? ⟨b, off + i, none⟩ = some (.int .i64 l[i]) := by
  rcases h with ⟨_, h2⟩ | ⟨b, off, c', h1, _, _, _, h5⟩
  · subst h2; simp at h0
  · simp only [Value.slice.injEq] at h1
    refine ⟨b, off, h1.1, h1.2.1, fun i hi => h5 i _ ?_⟩
    rw [intsV, List.getElem?_map, List.getElem?_eq_getElem hi]
    rfl
set_option maxHeartbeats 1000000 in
theorem cp_checkSerials (l : List Int) (v : Value) (w : World) (hv : IntsAt w v l) (hl : l.length ≤ 1000000) : Calls Tryz.prog 92 #[v] w fun e w' => e = .returned (.int .i64 (serE l)) ∧ w = w' := by
  have HV := Lib.hid hv
  obtain ⟨A, c, rfl, b1, b2⟩ := hv.form
  clear hv
  by_cases h4 : 400 < l.length
  · have e1 : serE l = 2 := if_pos h4
    rw [e1]
    have i1 : (400 : Int) < (l.length : Int) := by omega
    go_enter Tryz.func92, Tryz.ntmps92
    go_wp2_with fail
    go_ret
    exact ⟨rfl, rfl⟩
  · have i1 : ¬ ((400 : Int) < (l.length : Int)) := by omega
    have HE : Hid (∀ j, j < l.length → (∀ x ∈ l.take j, 0 ≤ x ∧ x ≤ 99999) → True) := Lib.hid (fun _ _ _ => trivial)
    go_enter Tryz.func92, Tryz.ntmps92
    go_wp2_with fail
    go_loopw [10] (fun s10 wr => ∃ j : Nat, j ≤ l.length ∧ s10 = .int .i64 j ∧ (∀ x ∈ l.take j, 0 ≤ x ∧ x ≤ 99999) ∧ wr = w) (fun i _ => l.length - (intOf i).toNat)
    case atStart => exact ⟨0, by omega, rfl, by simp, rfl⟩
    case round =>
      obtain ⟨j, hj, rfl, hk, hw⟩ := hrel
      have hw' := hw.symm
      subst hw'
      clear hw
      have HK := Lib.hid hk
      clear hk
      by_cases hlt : j < l.length
      · obtain ⟨b, off, rfl, -, hc⟩ := ints_cell HV.out (by omega)
        have hcj := hc j hlt
        have hmem : l[j] ∈ l := List.getElem_mem hlt
        have htk : l.take (j + 1) = l.take j ++ [l[j]] := List.take_succ_eq_append_getElem hlt
        have HW := Lib.hid (cp_within l[j] 0 99999 w)
        have HTK := Lib.hid htk
        clear hc htk
        by_cases hx : 0 ≤ l[j] ∧ l[j] ≤ 99999
        · rw [decide_eq_true hx] at HW
          have HXX := Lib.hid hx
          clear hx
          generalize l[j] = x at *
          go_wp2_with (go_at_call 82; refine HW.out.mono ?_; rintro e w' ⟨rfl, rfl⟩)
          go_roundw
          case rel =>
            refine ⟨j + 1, by omega, by go_num, fun y hy => ?_, trivial⟩
            rw [HTK.out] at hy
            rcases List.mem_append.1 hy with h | h
            · exact HK.out y h
            · rw [List.mem_singleton] at h; rw [h]; exact HXX.out
          case measure => simp [intOf]; omega
        · have e1 : serE l = 1 := by
            rw [serE, if_neg h4, if_neg]
            intro h
            exact hx (serB_iff.1 h _ hmem)
          rw [decide_eq_false hx] at HW
          have HE1 := Lib.hid e1
          clear hx e1
          generalize l[j] = x at *
          go_wp2_with (go_at_call 82; refine HW.out.mono ?_; rintro e w' ⟨rfl, rfl⟩)
          go_ret
          exact ⟨by rw [HE1.out]; rfl, rfl⟩
      · obtain rfl : j = l.length := by omega
        have e1 : serE l = 0 := by
          rw [serE, if_neg h4, if_pos]
          rw [serB_iff]
          have := HK.out
          rwa [List.take_length] at this
        have HE1 := Lib.hid e1
        clear e1
        go_wp2_with fail
        go_ret
        exact ⟨by rw [HE1.out]; rfl, rfl⟩
/-- The kept places, or none with an error. -/
def keptC (l : List Int) : List Nat := if serE l = 0 then keptI l else []
theorem RowIs.owns {W : World} {g base : Nat} {e : TypeId} {cs : List Value} (h : RowIs W g e cs) (hb : base ≤ g) (hl : cs.length ≤ 1000000) : W.ownsRow base e 1 (.slice (some ⟨g, 0, none⟩) cs.length cs.length) cs.length cs :=
  ⟨by simp, .inr ⟨g, cs.length, cs.toArray, rfl, hb, h, Nat.le_refl _, by unfold maxLen; omega, by simp, by simp⟩⟩
theorem keptI_mem {l : List Int} (hl : l.length ≤ 1000) {x : Nat} : x ∈ keptI l ↔ x + 1 ∈ kept l := by
  rw [keptI, List.mem_map]
  constructor
  · rintro ⟨y, hy, rfl⟩
    have := ((kept_is hl).mem y hy).1
    rwa [Nat.sub_add_cancel (by omega)]
  · intro h
    exact ⟨x + 1, h, rfl⟩
/-- A row of numbers that a function tells. -/
def rowG (n : Nat) (f : Nat → Int) : List Value := (List.range n).map fun j => .int .i64 (f j)
theorem rowG_len (n : Nat) (f : Nat → Int) : (rowG n f).length = n := by simp [rowG]
theorem rowG_at {n i : Nat} (f : Nat → Int) (h : i < n) : (rowG n f)[i]? = some (.int .i64 (f i)) := by
  rw [rowG, List.getElem?_map, List.getElem?_range h]; rfl
theorem rowG_set {n i : Nat} {f g : Nat → Int} {v : Int} (h1 : g i = v) (h2 : ∀ j, j < n → j ≠ i → g j = f j) : (rowG n f).set i (.int .i64 v) = rowG n g := by
  apply List.ext_getElem?
  intro j
  rw [List.getElem?_set]
  by_cases hj : j < n
  · rw [rowG_at _ hj, rowG_at _ hj, rowG_len]
    by_cases e : i = j
    · subst e; rw [if_pos rfl, if_pos hj, h1]
    · rw [if_neg e, h2 j hj (Ne.symm e)]
  · rw [List.getElem?_eq_none (l := rowG n f) (by rw [rowG_len]; omega), List.getElem?_eq_none (l := rowG n g) (by rw [rowG_len]; omega), rowG_len]
    by_cases e : i = j
    · subst e; rw [if_pos rfl, if_neg hj]
    · rw [if_neg e]
theorem rowG_congr {n : Nat} {f g : Nat → Int} (h : ∀ j, j < n → f j = g j) : rowG n f = rowG n g := List.map_congr_left fun j hj => by rw [h j (List.mem_range.1 hj)]
theorem rz_range {l : List Int} (hl : l.length ≤ 1000) : ∀ j, j ≤ l.length → 0 ≤ rzA l j ∧ rzA l j ≤ 99999
  | 0, _ => by rw [rzA]; omega
  | j + 1, hj => by
    have h1 := rz_range hl j (by omega)
    have h2 := rz_step hl (j := j) (by omega)
    omega
/-- The rising list while the numbers that stay are put into it. -/
def putF (l : List Int) (j x : Nat) : Int := if x ∈ (keptI l).take j then l.getD x 0 else 0
theorem putF_zero (l : List Int) (x : Nat) : putF l 0 x = 0 := by simp [putF]
theorem putF_all {l : List Int} (hl : l.length ≤ 1000) (x : Nat) : putF l (keptI l).length x = stayA l x := by
  rw [putF, List.take_length, stayA]
  by_cases h : x + 1 ∈ kept l
  · rw [if_pos h, if_pos ((keptI_mem hl).2 h)]
  · rw [if_neg h, if_neg (fun h2 => h ((keptI_mem hl).1 h2))]
/-- The rising list while the gaps are filled. -/
def gapF (l : List Int) (j x : Nat) : Int := if x < j then rzA l (x + 1) else stayA l x
end Go.Proofs.YthodoabppkeidaaGreatDoor
