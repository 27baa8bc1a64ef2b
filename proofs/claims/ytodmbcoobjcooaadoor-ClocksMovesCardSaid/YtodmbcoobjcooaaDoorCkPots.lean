/-
  Times that keep all bounds, as numbers of places that keep all edges; and back. No condition.
  The least sums of a system that closes, as functions; the rows of the earliest and the latest times. No condition.
-/
import Derived.Test.YtodmbcoobjcooaaDoorCkMoms
import Derived.Test.YtodmbcoobjcooaaDoorCkEarly
import Derived.Test.YtodmbcoobjcooaaDoorCkRel
namespace Go.Proofs.YtodmbcoobjcooaaDoor
open Go Go.RowKit Go.Shelf
/-- Times keep all bounds. -/
def allK (s : Sy) (l : List (List Int)) : Bool := (bnds s).all (keepB l)
theorem keeps_pot {s : Sy} {l : List (List Int)} (hs : Ok s) (h : allK s l = true) : ∃ p : Nat → Int, (∀ r, RefOk s r → p (plc s r) = momAt l r) ∧ ∀ e, e ∈ egs s → p e.2.1 ≤ p e.1 + e.2.2 := by
  classical
  refine ⟨fun v => if h : ∃ r, RefOk s r ∧ plc s r = v then momAt l h.choose else 0, ?_⟩
  have key : ∀ r, RefOk s r → (if h : ∃ q, RefOk s q ∧ plc s q = plc s r then momAt l h.choose else 0) = momAt l r := fun r hr => by
    have hx : ∃ q, RefOk s q ∧ plc s q = plc s r := ⟨r, hr, rfl⟩
    rw [dif_pos hx]
    rw [plc_eq hx.choose_spec.1 hr hx.choose_spec.2]
  refine ⟨key, fun e he => ?_⟩
  obtain ⟨b, hb, rfl⟩ := List.mem_map.1 he
  obtain ⟨h1, h2, -, -, -⟩ := bnds_ok hs hb
  have hk := List.all_eq_true.1 h b hb
  unfold keepB at hk
  have hk2 : momAt l b.to ≤ momAt l b.frm + b.most := of_decide_eq_true hk
  have e1 := key b.to h2
  have e2 := key b.frm h1
  show (if h : ∃ q, RefOk s q ∧ plc s q = plc s b.to then momAt l h.choose else 0) ≤ (if h : ∃ q, RefOk s q ∧ plc s q = plc s b.frm then momAt l h.choose else 0) + b.most
  rw [e1, e2]
  exact hk2
theorem keeps_closes {s : Sy} {l : List (List Int)} (hs : Ok s) (h : allK s l = true) : Closes (egs s) := by
  obtain ⟨p, -, hp⟩ := keeps_pot hs h
  exact ⟨p, hp⟩
theorem keeps_wk {s : Sy} {l : List (List Int)} (hs : Ok s) (h : allK s l = true) {r q : Rf} (hr : RefOk s r) (hq : RefOk s q) {x : Int} (hw : Wk (egs s) (plc s r) (plc s q) x) : momAt l q ≤ momAt l r + x := by
  obtain ⟨p, hp, he⟩ := keeps_pot hs h
  have := hw.keeps he
  rw [hp r hr, hp q hq] at this
  exact this
/-- The minutes of the rows of numbers of places. -/
theorem momAt_rows {s : Sy} (f : Nat → Int) (h0 : f 0 = 0) {r : Rf} (hr : RefOk s r) : momAt (rowsI s f s.tracks.length) r = f (plc s r) := by
  rcases hr with rfl | hr
  · rw [plc_beg, h0]
    rfl
  · obtain ⟨-, -, -, a1, a2, a3, a4⟩ := plc_line hr
    unfold momAt
    rw [if_neg (by omega)]
    unfold rowsI
    rw [List.getElem?_map, List.getElem?_range a1]
    simp only [Option.map_some, Option.getD_some]
    unfold rowI
    rw [List.getElem?_map, List.getElem?_range a2]
    simp only [Option.map_some, Option.getD_some]
    have e : (⟨(r.log.toNat : Nat), (r.line.toNat : Nat)⟩ : Rf) = r := by
      cases r
      simp at a3 a4 ⊢
      omega
    rw [e]
theorem pot_keeps {s : Sy} (hs : Ok s) (f : Nat → Int) (h0 : f 0 = 0) (hf : ∀ e, e ∈ egs s → f e.2.1 ≤ f e.1 + e.2.2) : allK s (rowsI s f s.tracks.length) = true := by
  unfold allK
  refine List.all_eq_true.2 fun b hb => ?_
  obtain ⟨h1, h2, -, -, -⟩ := bnds_ok hs hb
  unfold keepB
  rw [momAt_rows f h0 h1, momAt_rows f h0 h2]
  exact decide_eq_true (hf _ (List.mem_map.2 ⟨b, hb, rfl⟩))
theorem MinW.zero {E : List Eg} (hc : Closes E) {u : Nat} {m : Int} (h : MinW E u u m) : m = 0 := by
  have h1 := h.2 0 (.nil u)
  have h2 := h.round hc h
  omega
theorem min_keeps {s : Sy} (hs : Ok s) {f : Nat → Int} (hf : ∀ v, v < nPl s → MinW (egs s) 0 v (f v)) : ∀ e, e ∈ egs s → f e.2.1 ≤ f e.1 + e.2.2 := fun e he =>
  (hf e.2.1 ((egs_ok hs).snd e he)).2 _ ((hf e.1 ((egs_ok hs).fst e he)).1.trans (Wk.one he))
theorem min_keeps_back {s : Sy} (hs : Ok s) {f : Nat → Int} (hf : ∀ v, v < nPl s → MinW (egs s) v 0 (f v)) : ∀ e, e ∈ egs s → -f e.2.1 ≤ -f e.1 + e.2.2 := fun e he => by
  have := (hf e.1 ((egs_ok hs).fst e he)).2 _ ((Wk.one he).trans (hf e.2.1 ((egs_ok hs).snd e he)).1)
  omega
/-- The latest and the earliest times keep all bounds. -/
theorem latest_keeps {s : Sy} (hs : Ok s) (hc : Closes (egs s)) {f : Nat → Int} (hf : ∀ v, v < nPl s → MinW (egs s) 0 v (f v)) : allK s (rowsI s f s.tracks.length) = true :=
  pot_keeps hs f (MinW.zero hc (hf 0 (nPl_pos s))) (min_keeps hs hf)
theorem earliest_keeps {s : Sy} (hs : Ok s) (hc : Closes (egs s)) {f : Nat → Int} (hf : ∀ v, v < nPl s → MinW (egs s) v 0 (f v)) : allK s (rowsI s (fun v => -f v) s.tracks.length) = true :=
  pot_keeps hs (fun v => -f v) (by have := MinW.zero hc (hf 0 (nPl_pos s)); show -f 0 = 0; omega) (min_keeps_back hs hf)
/-- No times that keep all bounds leave a span. -/
theorem keeps_in {s : Sy} {l : List (List Int)} (hs : Ok s) (h : allK s l = true) {r : Rf} (hr : RefOk s r) {hi lo : Int} (h1 : MinW (egs s) 0 (plc s r) hi) (h2 : MinW (egs s) (plc s r) 0 (-lo)) : lo ≤ momAt l r ∧ momAt l r ≤ hi := by
  have e0 : plc s beg = 0 := plc_beg s
  have a := keeps_wk hs h (r := beg) (q := r) (.inl rfl) hr (by rw [e0]; exact h1.1)
  have b := keeps_wk hs h (r := r) (q := beg) hr (.inl rfl) (by rw [e0]; exact h2.1)
  have c : momAt l beg = 0 := rfl
  rw [c] at a b
  omega
theorem min_keeps_to {s : Sy} (hs : Ok s) {u : Nat} {f : Nat → Int} (hf : ∀ v, v < nPl s → MinW (egs s) v u (f v)) : ∀ e, e ∈ egs s → -f e.2.1 ≤ -f e.1 + e.2.2 := fun e he => by
  have := (hf e.1 ((egs_ok hs).fst e he)).2 _ ((Wk.one he).trans (hf e.2.1 ((egs_ok hs).snd e he)).1)
  omega
/-- Each number of a span occurs: the least times in which a line has it keep all bounds. -/
theorem through_keeps {s : Sy} (hs : Ok s) (hc : Closes (egs s)) {r : Rf} (hr : RefOk s r) {b c : Nat → Int} (hb : ∀ v, v < nPl s → MinW (egs s) v 0 (b v)) (hcc : ∀ v, v < nPl s → MinW (egs s) v (plc s r) (c v)) {n : Int} (h1 : -b (plc s r) ≤ n) (h2 : n ≤ c 0) :
    allK s (rowsI s (fun v => max (-b v) (n - c v)) s.tracks.length) = true ∧ momAt (rowsI s (fun v => max (-b v) (n - c v)) s.tracks.length) r = n := by
  have z1 := MinW.zero hc (hb 0 (nPl_pos s))
  have z2 := MinW.zero hc (hcc (plc s r) (plc_lt hr))
  have f0 : (fun v => max (-b v) (n - c v)) 0 = 0 := by
    show max (-b 0) (n - c 0) = 0
    omega
  refine ⟨pot_keeps hs _ f0 fun e he => ?_, ?_⟩
  · have k1 := min_keeps_to hs hb e he
    have k2 := min_keeps_to hs hcc e he
    show max (-b e.2.1) (n - c e.2.1) ≤ max (-b e.1) (n - c e.1) + e.2.2
    omega
  · rw [momAt_rows _ f0 hr]
    show max (-b (plc s r)) (n - c (plc s r)) = n
    omega
end Go.Proofs.YtodmbcoobjcooaaDoor

namespace Go.Proofs.YtodmbcoobjcooaaDoor
open Go Go.RowKit Go.Shelf
theorem exists_least {p : Int → Prop} (lo : Int) : ∀ (k : Nat) (x : Int), p x → x ≤ lo + k → (∀ y, p y → lo ≤ y) → ∃ m, p m ∧ ∀ y, p y → m ≤ y
  | 0, x, hx, hk, hb => ⟨x, hx, fun y hy => by have := hb y hy; omega⟩
  | k + 1, x, hx, hk, hb => by
    by_cases h : ∃ y, p y ∧ y < x
    · obtain ⟨y, hy, hl⟩ := h
      exact exists_least lo k y hy (by omega) hb
    · exact ⟨x, hx, fun y hy => by
        by_cases hl : y < x
        · exact absurd ⟨y, hy, hl⟩ h
        · omega⟩
theorem minW_exists {E : List Eg} (hc : Closes E) {u v : Nat} (hw : ∃ x, Wk E u v x) : ∃ m, MinW E u v m := by
  obtain ⟨p, hp⟩ := hc
  obtain ⟨x, hx⟩ := hw
  have hb : ∀ y, Wk E u v y → p v - p u ≤ y := fun y hy => by have := hy.keeps hp; omega
  have h0 := hb x hx
  obtain ⟨m, h1, h2⟩ := exists_least (p := fun y => Wk E u v y) (p v - p u) (x - (p v - p u)).toNat x hx (by omega) hb
  exact ⟨m, h1, h2⟩
/-- The least sum of the ways from one place to another one. -/
noncomputable def mnW (E : List Eg) (u v : Nat) : Int := by classical exact if h : ∃ m, MinW E u v m then h.choose else 0
theorem mnW_eq {E : List Eg} {u v : Nat} {m : Int} (h : MinW E u v m) : mnW E u v = m := by
  have hx : ∃ m, MinW E u v m := ⟨m, h⟩
  unfold mnW
  rw [dif_pos hx]
  exact hx.choose_spec.unique h
theorem ref_at {s : Sy} {v : Nat} (hv : v < nPl s) : ∃ r, RefOk s r ∧ plc s r = v := by
  by_cases h0 : v = 0
  · exact ⟨beg, .inl rfl, by rw [plc_beg]; exact h0.symm⟩
  have key : ∀ k, k ≤ s.tracks.length → v < fstP s k → ∃ r, RefOk s r ∧ plc s r = v := by
    intro k
    induction k with
    | zero => intro _ h; rw [fstP_zero] at h; omega
    | succ k ih =>
      intro hk h
      by_cases h1 : v < fstP s k
      · exact ih (by omega) h1
      · rw [fstP_succ] at h
        refine ⟨⟨k, (v - fstP s k : Nat)⟩, .inr (line_mk (by omega) (by omega)), ?_⟩
        unfold plc
        rw [if_neg (by simp)]
        simp
        omega
  exact key _ (Nat.le_refl _) hv
theorem mnW_is {s : Sy} (hc : Closes (egs s)) {u v : Nat} (hu : u < nPl s) (hv : v < nPl s) : MinW (egs s) u v (mnW (egs s) u v) := by
  obtain ⟨r, hr, rfl⟩ := ref_at hu
  obtain ⟨m, hm⟩ := minW_exists hc (reach_all hr hv)
  rw [mnW_eq hm]
  exact hm
/-- The latest and minus the earliest number of a place. -/
noncomputable def hiF (s : Sy) (v : Nat) : Int := mnW (egs s) 0 v
noncomputable def loF (s : Sy) (v : Nat) : Int := mnW (egs s) v 0
theorem up_wk {s : Sy} {r : Rf} (h : lineB s r = true) : Wk (egs s) 0 (plc s r) (tmAt (tkAt s r.log.toNat) r.line.toNat + (tkAt s r.log.toNat).slip) ∧ Wk (egs s) (plc s r) 0 ((tkAt s r.log.toNat).slip - tmAt (tkAt s r.log.toNat) r.line.toNat) := by
  obtain ⟨-, -, -, a1, a2, a3, a4⟩ := plc_line h
  have e : (⟨(r.log.toNat : Nat), (r.line.toNat : Nat)⟩ : Rf) = r := by
    cases r
    simp at a3 a4 ⊢
    omega
  have h1 := Wk.one (List.mem_map.2 ⟨_, mem_slip a1 a2 (.inl rfl), rfl⟩ : egOf s (upB r.log.toNat (tkAt s r.log.toNat) r.line.toNat) ∈ egs s)
  have h2 := Wk.one (List.mem_map.2 ⟨_, mem_slip a1 a2 (.inr rfl), rfl⟩ : egOf s (downB r.log.toNat (tkAt s r.log.toNat) r.line.toNat) ∈ egs s)
  unfold egOf upB at h1
  unfold egOf downB at h2
  rw [e] at h1 h2
  rw [plc_beg] at h1 h2
  exact ⟨h1, h2⟩
/-- The span of a line lies within the slip of its clock. -/
theorem span_slip {s : Sy} (hc : Closes (egs s)) {r : Rf} (h : lineB s r = true) : tmAt (tkAt s r.log.toNat) r.line.toNat - (tkAt s r.log.toNat).slip ≤ -loF s (plc s r) ∧ hiF s (plc s r) ≤ tmAt (tkAt s r.log.toNat) r.line.toNat + (tkAt s r.log.toNat).slip ∧ -loF s (plc s r) ≤ hiF s (plc s r) := by
  obtain ⟨h1, h2⟩ := up_wk h
  have h0 : 0 < nPl s := nPl_pos s
  have hv := plc_lt (.inr h : RefOk s r)
  have m1 := mnW_is hc h0 hv
  have m2 := mnW_is hc hv h0
  have a := m1.2 _ h1
  have b := m2.2 _ h2
  have c := m1.round hc m2
  unfold hiF loF
  omega
theorem zero_lohi {s : Sy} (hc : Closes (egs s)) : hiF s 0 = 0 ∧ loF s 0 = 0 := by
  have h0 : 0 < nPl s := nPl_pos s
  exact ⟨MinW.zero hc (mnW_is hc h0 h0), MinW.zero hc (mnW_is hc h0 h0)⟩
theorem lohi_in {s : Sy} (hs : Ok s) (hc : Closes (egs s)) {v : Nat} (hv : v < nPl s) : (-1000000 ≤ -loF s v ∧ -loF s v ≤ 1000000) ∧ -1000000 ≤ hiF s v ∧ hiF s v ≤ 1000000 := by
  obtain ⟨r, hr, rfl⟩ := ref_at hv
  rcases hr with rfl | hr
  · rw [plc_beg, (zero_lohi hc).1, (zero_lohi hc).2]; decide
  · obtain ⟨a, b, c⟩ := span_slip hc hr
    obtain ⟨-, -, -, a1, a2, -, -⟩ := plc_line hr
    have hf := trackB_facts (hs.track a1)
    have ht := hf.1 _ a2
    have hsl := hf.2.1
    have hsl2 := hf.2.2.1
    omega
theorem rowI_congr {s : Sy} {f g : Nat → Int} (h : ∀ v, v < nPl s → f v = g v) {i : Nat} (hi : i < s.tracks.length) : ∀ k, k ≤ (tkAt s i).times.length → rowI s f i k = rowI s g i k := fun k hk => by
  unfold rowI
  apply List.map_congr_left
  intro j hj
  exact h _ (plc_lt (.inr (line_mk hi (by have := List.mem_range.1 hj; omega))))
theorem rowsI_congr {s : Sy} {f g : Nat → Int} (h : ∀ v, v < nPl s → f v = g v) : rowsI s f s.tracks.length = rowsI s g s.tracks.length := by
  unfold rowsI
  apply List.map_congr_left
  intro i hi
  exact rowI_congr h (List.mem_range.1 hi) _ (Nat.le_refl _)
theorem rowsK_congr {s : Sy} {f g f' g' : Nat → Int} (h : ∀ v, v < nPl s → f v = g v) (h' : ∀ v, v < nPl s → f' v = g' v) : rowsK s f f' s.tracks.length = rowsK s g g' s.tracks.length := by
  unfold rowsK
  apply List.map_congr_left
  intro i hi
  unfold rowK
  apply List.map_congr_left
  intro j hj
  have hv := plc_lt (.inr (line_mk (List.mem_range.1 hi) (List.mem_range.1 hj)) : RefOk s ⟨i, j⟩)
  rw [h _ hv, h' _ hv]
theorem dist_lohi {s : Sy} (hs : Ok s) {dd db : Nat → Int} (h1 : Dist (egs s) (nPl s) 0 22001 dd) (h2 : Dist (turnE (egs s)) (nPl s) 0 22001 db) {v : Nat} (hv : v < nPl s) : dd v = hiF s v ∧ db v = loF s v := by
  obtain ⟨r, hr, rfl⟩ := ref_at hv
  obtain ⟨⟨a, b⟩, -⟩ := view_min hs (a := beg) (.inl rfl) hr (by rw [plc_beg]; exact h1) (by rw [plc_beg]; exact h2)
  rw [plc_beg] at a b
  exact ⟨(mnW_eq a).symm, (mnW_eq b).symm⟩
theorem rowsI_get {s : Sy} (f : Nat → Int) {i : Nat} (hi : i < s.tracks.length) : (rowsI s f s.tracks.length)[i]?.getD [] = rowI s f i (tkAt s i).times.length := by
  unfold rowsI
  rw [List.getElem?_map, List.getElem?_range hi]
  rfl
theorem rowI_get {s : Sy} (f : Nat → Int) {i j k : Nat} (hj : j < k) : (rowI s f i k)[j]?.getD 0 = f (plc s ⟨i, j⟩) := by
  unfold rowI
  rw [List.getElem?_map, List.getElem?_range hj]
  rfl
theorem rows_fit {s : Sy} (f : Nat → Int) (h : ∀ v, v < nPl s → -1000000 ≤ f v ∧ f v ≤ 1000000) : fitB s (rowsI s f s.tracks.length) = true := by
  refine fitB_yes (rowsI_len _ _ _) fun i hi => ?_
  rw [rowsI_get f hi]
  refine fitR_yes (rowI_len _ _ _ _) fun j hj => ?_
  rw [rowI_len] at hj
  rw [rowI_get f hj, wiB_iff]
  exact h _ (plc_lt (.inr (line_mk hi hj)))
/-- Lists of ints of one's own lie in memory. -/
theorem AllInI.iss {W : World} {base : Nat} {V : Value} {rows : List (List Int)} (h : AllInI W base V rows) : ∃ A c, V = .slice A rows.length c ∧ IssA W A rows := by
  obtain ⟨outs, h1, h2⟩ := h
  obtain ⟨A, c, rfl⟩ := owns_form h1
  refine ⟨A, c, rfl, ?_⟩
  have hlen : outs.length = rows.length := by have := h1.1; omega
  rcases h1.2 with ⟨h3, h4⟩ | ⟨g, cap, cur, hv, hb, hh, k1, k2, k3, k4⟩
  · exact ⟨by rw [h4]; omega, fun h0 => absurd h4 (by omega)⟩
  · simp only [Value.slice.injEq] at hv
    obtain ⟨rfl, -, rfl⟩ := hv
    unfold maxLen at k2
    refine ⟨by omega, fun h0 => ⟨g, 0, rfl, (Array.getElem?_eq_some_iff.1 hh).1, fun i hi => ?_⟩⟩
    obtain ⟨v, a, b⟩ := h2 i hi
    obtain ⟨B, bc, rfl⟩ := owns_form b
    refine ⟨B, bc, ?_, (owns_ints b).2⟩
    rw [Nat.zero_add, h1.cellAt i (by omega)]
    exact a
end Go.Proofs.YtodmbcoobjcooaaDoor
