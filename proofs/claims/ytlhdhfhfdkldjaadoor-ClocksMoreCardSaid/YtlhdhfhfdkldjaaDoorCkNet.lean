/-
  Nets in memory, and place of the program. Condition: the net lies in memory.
-/
import Derived.Test.YtlhdhfhfdkldjaaDoorCkBounds
import Derived.Test.YtlhdhfhfdkldjaaDoorCkRegion
import Derived.Deep.AppendLies
import Derived.Deep.Upon
namespace Go.Proofs.YtlhdhfhfdkldjaaDoor
open Go Go.RowKit Go.Shelf
-- slices of the call's own
theorem owns_keep {w w' : World} {base : Nat} {e : TypeId} {size : Nat} {v : Value} {n : Nat} {xs : List Value} (h : w.ownsRow base e size v n xs) (k : New w w') : w'.ownsRow base e size v n xs := by
  obtain ⟨h1, h2⟩ := h
  refine ⟨h1, ?_⟩
  rcases h2 with h2 | ⟨g, cap, cur, rfl, hb, hh, h3⟩
  · exact Or.inl h2
  · exact Or.inr ⟨g, cap, cur, rfl, hb, heap_keep k hh, h3⟩
theorem owns_form {w : World} {base : Nat} {e : TypeId} {size : Nat} {v : Value} {n : Nat} {xs : List Value} (h : w.ownsRow base e size v n xs) : ∃ A c, v = .slice A n c := by
  rcases h.2 with ⟨rfl, hz⟩ | ⟨g, cap, cur, rfl, _⟩
  · subst hz; exact ⟨none, 0, rfl⟩
  · exact ⟨_, _, rfl⟩
theorem owns_base {w : World} {b b' : Nat} {e : TypeId} {size : Nat} {v : Value} {n : Nat} {xs : List Value} (h : w.ownsRow b e size v n xs) (hb : b' ≤ b) : w.ownsRow b' e size v n xs := by
  obtain ⟨h1, h2⟩ := h
  refine ⟨h1, ?_⟩
  rcases h2 with h2 | ⟨g, cap, cur, rfl, hg, h3⟩
  · exact Or.inl h2
  · exact Or.inr ⟨g, cap, cur, rfl, by omega, h3⟩
/-- A row of other elements is another block. -/
theorem owns_ne {w : World} {b g : Nat} {e e' : TypeId} {size : Nat} {v : Value} {n : Nat} {xs cs : List Value} (h : w.ownsRow b e size v n xs) (r : RowIs w g e' cs) (hne : e ≠ e') : v.ownBlock ≠ some g := by
  rcases h.2 with ⟨rfl, _⟩ | ⟨k, cap, cur, rfl, _, hh, _⟩
  · simp [Value.ownBlock]
  · intro h1
    obtain rfl : k = g := by simpa [Value.ownBlock] using h1
    unfold RowIs at r
    rw [hh] at r
    simp at r
    exact hne r.2
theorem owns_setCell {w : World} {b : Nat} {e : TypeId} {size : Nat} {v : Value} {n : Nat} {xs : List Value} (h : w.ownsRow b e size v n xs) {p : Nat} (hp : v.ownBlock ≠ some p) (i : Nat) (u : Value) : (w.setCell ⟨p, i, none⟩ u).ownsRow b e size v n xs := by
  obtain ⟨h1, h2⟩ := h
  refine ⟨h1, ?_⟩
  rcases h2 with h2 | ⟨g, cap, cur, rfl, hg, hh, h3⟩
  · exact Or.inl h2
  · refine Or.inr ⟨g, cap, cur, rfl, hg, ?_, h3⟩
    have : p ≠ g := fun e => hp (by rw [e]; rfl)
    simp [World.setCell, Array.getElem?_modify, hh, this]
theorem grown_below {w w' : World} {b : Nat} {e : TypeId} {size : Nat} {v : Value} {n : Nat} {xs : List Value} (h : w.ownsRow b e size v n xs) (g : w.grownBy w' v.ownBlock) (hb : b ≤ w.heap.size) : Below b w w' :=
  (Below.refl b w).grown g hb (fun k hk => (h.lt k hk).1)
theorem RowIs.grown {w w' : World} {g : Nat} {e : TypeId} {cs : List Value} {row : Option Nat} (h : RowIs w g e cs) (k : w.grownBy w' row) (hne : row ≠ some g) : RowIs w' g e cs := (k.block g h.lt (fun e => hne e.symm)).trans h
theorem owns_grown {w w' : World} {b : Nat} {e : TypeId} {size : Nat} {v : Value} {n : Nat} {xs : List Value} {row : Option Nat} (h : w.ownsRow b e size v n xs) (k : w.grownBy w' row) (hne : v.ownBlock = none ∨ v.ownBlock ≠ row) : w'.ownsRow b e size v n xs := h.kept k hne
/-- Two slices of the call's own, of different elements, lie in different blocks. -/
theorem owns_apart {w : World} {b b' : Nat} {e e' : TypeId} {size size' : Nat} {v v' : Value} {n n' : Nat} {xs xs' : List Value} (h' : w.ownsRow b' e' size' v' n' xs') (h : w.ownsRow b e size v n xs) (hne : e ≠ e') : v'.ownBlock = none ∨ v'.ownBlock ≠ v.ownBlock := by
  rcases h'.2 with ⟨rfl, _⟩ | ⟨g', cap', cur', rfl, _, hg', _⟩
  · exact .inl rfl
  · refine .inr fun e1 => ?_
    rcases h.2 with ⟨rfl, _⟩ | ⟨g, cap, cur, rfl, _, hg, _⟩
    · simp [Value.ownBlock] at e1
    · obtain rfl : g' = g := by simpa [Value.ownBlock] using e1
      rw [hg] at hg'
      simp at hg'
      exact hne hg'.2
/-- What an append to a slice, and a store of it into a cell of a block, leave. -/
theorem push_all {W1 w1 : World} {b : Nat} {e : TypeId} {size : Nat} {v v' : Value} {n n' : Nat} {xs xs' : List Value} {B : Nat} {tN : TypeId} {cs : List Value} (i : Nat) (hv : W1.ownsRow b e size v n xs) (hg : W1.grownBy w1 v.ownBlock) (ho : w1.ownsRow b e size v' n' xs') (hB : RowIs W1 B tN cs) (hne : e ≠ tN) :
    RowIs w1 B tN cs ∧ RowIs (w1.setCell ⟨B, i, none⟩ v') B tN (cs.set i v') ∧ (w1.setCell ⟨B, i, none⟩ v').ownsRow b e size v' n' xs' ∧
    (∀ g e' cs', RowIs W1 g e' cs' → g ≠ B → e ≠ e' → RowIs (w1.setCell ⟨B, i, none⟩ v') g e' cs') ∧
    (∀ b2 e2 s2 u m ys, W1.ownsRow b2 e2 s2 u m ys → e ≠ e2 → e2 ≠ tN → (w1.setCell ⟨B, i, none⟩ v').ownsRow b2 e2 s2 u m ys) := by
  have h1 : RowIs w1 B tN cs := hB.grown hg (owns_ne hv hB hne)
  refine ⟨h1, h1.put i v', owns_setCell ho (owns_ne ho h1 hne) i v', fun g e' cs' hr hgB hee => ?_, fun b2 e2 s2 u m ys hu hee het => ?_⟩
  · exact (hr.grown hg (owns_ne hv hr hee)).other (Ne.symm hgB) i v'
  · have h2 := hu.kept hg (owns_apart hu hv hee)
    exact owns_setCell h2 (owns_ne h2 h1 het) i v'
/-- A row that was laid whole. -/
theorem owns_row {w : World} {g b : Nat} {e : TypeId} {cs : List Value} {size n : Nat} (h : RowIs w g e cs) (hb : b ≤ g) (hl : cs.length = n * size) (hn : n ≤ 9223372036854775807) : w.ownsRow b e size (.slice (some ⟨g, 0, none⟩) n n) n cs :=
  ⟨hl, .inr ⟨g, n, cs.toArray, rfl, hb, h, Nat.le_refl _, hn, by simp [hl], by simp [hl, List.take_of_length_le]⟩⟩
theorem owns_ints {w : World} {b : Nat} {e : TypeId} {A : Option Addr} {n c : Nat} {l : List Int} (h : w.ownsRow b e 1 (.slice A n c) n (l.map (Value.int .i64))) : n = l.length ∧ IntsA w A l := by
  have hl := h.1
  simp at hl
  subst hl
  refine ⟨rfl, ?_⟩
  rcases h.2 with ⟨h1, h2⟩ | ⟨g, cap, cur, hv, hb, hh, h1, h2, h3, h4⟩
  · have := List.eq_nil_of_length_eq_zero h2
    subst this
    exact IntsA.nil _ _
  · simp only [Value.slice.injEq] at hv
    obtain ⟨rfl, -, rfl⟩ := hv
    unfold maxLen at h2
    refine ⟨by omega, fun _ => ⟨g, 0, rfl, (Array.getElem?_eq_some_iff.1 hh).1, fun i hi => ?_⟩⟩
    rw [Nat.zero_add, h.cellAt i (by omega), List.getElem?_map, List.getElem?_eq_getElem hi]
    rfl
-- rows of elements of k cells
theorem fm_get {α β : Type} (f : α → List β) (k : Nat) (hk : ∀ x, (f x).length = k) : ∀ (l : List α) (i r : Nat) (hi : i < l.length), r < k → (l.flatMap f)[i * k + r]? = (f l[i])[r]?
  | [], i, r, hi, _ => by simp at hi
  | x :: l, 0, r, _, hr => by simp [List.getElem?_append_left (show r < (f x).length by rw [hk]; exact hr)]
  | x :: l, i + 1, r, hi, hr => by
    have := fm_get f k hk l i r (by simpa using hi) hr
    have e : (i + 1) * k + r = k + (i * k + r) := by rw [Nat.add_mul, Nat.one_mul]; omega
    rw [e, List.flatMap_cons, List.getElem?_append_right (by rw [hk]; omega), hk, show k + (i * k + r) - k = i * k + r by omega, this]
    rfl
theorem fm_len {α β : Type} (f : α → List β) (k : Nat) (hk : ∀ x, (f x).length = k) : ∀ l : List α, (l.flatMap f).length = l.length * k
  | [] => by simp
  | x :: l => by rw [List.flatMap_cons, List.length_append, hk, fm_len f k hk l, List.length_cons, Nat.add_mul]; omega
def egCs (e : Eg) : List Value := [.int .i64 e.1, .int .i64 e.2.1, .int .i64 e.2.2]
/-- Edges in memory. -/
def EgC (w : World) (b o : Nat) (e : Eg) : Prop := w.cell? ⟨b, o, none⟩ = some (.int .i64 e.1) ∧ w.cell? ⟨b, o + 1, none⟩ = some (.int .i64 e.2.1) ∧ w.cell? ⟨b, o + 2, none⟩ = some (.int .i64 e.2.2)
theorem EgC.keep {w w' : World} {b o : Nat} {e : Eg} (h : EgC w b o e) (k : New w w') : EgC w' b o e := ⟨k.cellOf h.1, k.cellOf h.2.1, k.cellOf h.2.2⟩
def EgsA (w : World) (A : Option Addr) (l : List Eg) : Prop :=
  l.length ≤ 9223372036854775807 ∧ (0 < l.length → ∃ b off, A = some ⟨b, off, none⟩ ∧ b < w.heap.size ∧ ∀ i, i < l.length → EgC w b (off + i * 3) (l[i]?.getD default))
theorem EgsA.keep {w w' : World} {A : Option Addr} {l : List Eg} (h : EgsA w A l) (k : New w w') : EgsA w' A l :=
  ⟨h.1, fun h0 => by
    obtain ⟨b, off, e, hb, hc⟩ := h.2 h0
    exact ⟨b, off, e, Nat.lt_of_lt_of_le hb k.size, fun i hi => (hc i hi).keep k⟩⟩
theorem owns_egs {w : World} {b : Nat} {e : TypeId} {A : Option Addr} {n c : Nat} {l : List Eg} (h : w.ownsRow b e 3 (.slice A n c) n (l.flatMap egCs)) : n = l.length ∧ EgsA w A l := by
  have hl := h.1
  rw [fm_len egCs 3 (fun _ => rfl)] at hl
  obtain rfl : n = l.length := by omega
  refine ⟨rfl, ?_⟩
  rcases h.2 with ⟨h1, h2⟩ | ⟨g, cap, cur, hv, hb, hh, h1, h2, h3, h4⟩
  · have := List.eq_nil_of_length_eq_zero h2
    subst this
    exact ⟨by simp, fun h => absurd h (by simp)⟩
  · simp only [Value.slice.injEq] at hv
    obtain ⟨rfl, -, rfl⟩ := hv
    unfold maxLen at h2
    refine ⟨by omega, fun _ => ⟨g, 0, rfl, (Array.getElem?_eq_some_iff.1 hh).1, fun i hi => ?_⟩⟩
    have key : ∀ r, r < 3 → w.cell? ⟨g, 0 + i * 3 + r, none⟩ = (egCs l[i])[r]? := fun r hr => by
      rw [Nat.zero_add, h.cellAt (i * 3 + r) (by omega), fm_get egCs 3 (fun _ => rfl) l i r hi hr]
    rw [List.getElem?_eq_getElem hi]
    exact ⟨key 0 (by omega), key 1 (by omega), key 2 (by omega)⟩
-- the places
def firsts (s : Sy) : List Int := 0 :: (List.range s.tracks.length).map fun i => ((fstP s i : Nat) : Int)
theorem firsts_len (s : Sy) : (firsts s).length = s.tracks.length + 1 := by simp [firsts]
theorem firsts_at {s : Sy} {r : Rf} (h : RefOk s r) : 0 ≤ r.log + 1 ∧ (r.log + 1).toNat < (firsts s).length ∧ (firsts s)[(r.log + 1).toNat]?.getD 0 + r.line = (plc s r : Nat) := by
  rcases h with rfl | h
  · rw [plc_beg, firsts_len]
    exact ⟨by decide, by show (0 : Nat) < _; omega, rfl⟩
  · obtain ⟨_, _, h3, h4, _, h6, h7⟩ := plc_line h
    rw [firsts_len]
    have e : (r.log + 1).toNat = r.log.toNat + 1 := by omega
    refine ⟨by omega, by omega, ?_⟩
    rw [e, firsts, List.getElem?_cons_succ, List.getElem?_map, List.getElem?_range h4, h3]
    simp
    omega
/-- A net in memory: of a system's places, with these edges. -/
def NetAt (w : World) (g : Nat) (s : Sy) (E : List Eg) : Prop :=
  ∃ FA fc EA ec, RowIs w g 154 [.slice FA (s.tracks.length + 1) fc, .int .i64 (nPl s), .slice EA E.length ec] ∧ IntsA w FA (firsts s) ∧ EgsA w EA E
theorem NetAt.keep {w w' : World} {g : Nat} {s : Sy} {E : List Eg} (h : NetAt w g s E) (k : New w w') : NetAt w' g s E := by
  obtain ⟨FA, fc, EA, ec, h1, h2, h3⟩ := h
  exact ⟨FA, fc, EA, ec, h1.keep k, h2.keep k, h3.keep k⟩
set_option maxHeartbeats 1000000 in
theorem ck_place (s : Sy) (hs : Ok s) (r : Rf) (hr : RefOk s r) (g fc : Nat) (FA : Option Addr) (w : World) (hg : w.cell? ⟨g, 0, none⟩ = some (.slice FA (s.tracks.length + 1) fc)) (hF : IntsA w FA (firsts s)) :
    Calls Tryd.prog 110 #[.pointer (some ⟨g, 0, none⟩), .agg #[.int .i64 r.log, .int .i64 r.line]] w fun e w' => e = .returned (.int .i64 (plc s r)) ∧ New w w' := by
  obtain ⟨h1, h2, h3⟩ := firsts_at hr
  have h64 := (checkE_ok hs).1
  have hp := plc_lt hr
  have hp2 := nPl_le hs
  rw [firsts_len] at h2
  have hfl := firsts_len s
  obtain ⟨b, off, rfl, hb, hc⟩ := hF.2 (by rw [hfl]; omega)
  have z := hc (r.log + 1).toNat (by rw [hfl]; exact h2)
  have hn := (New.refl w).alloc (.cells #[.int .i64 r.log, .int .i64 r.line] 53)
  have R := RowIs.new w 53 [.int .i64 r.log, .int .i64 r.line]
  have hln : 0 ≤ r.line ∧ r.line ≤ 30000 := by
    rcases hr with rfl | hr
    · decide
    · have := plc_line hr; omega
  generalize plc s r = p at *
  generalize (firsts s)[(r.log + 1).toNat]?.getD 0 = f at *
  generalize s.tracks.length = n at *
  have H3 := Lib.hid h3
  have hfb : 0 ≤ f + r.line ∧ f + r.line ≤ 30000 := by omega
  clear h3 hc hF hfl hp hp2 hr
  obtain ⟨lg, ln⟩ := r
  dsimp only at *
  obtain ⟨j, hj⟩ := Int.eq_ofNat_of_zero_le h1
  rw [hj] at h2 z
  rw [Int.toNat_natCast] at h2 z
  obtain rfl : lg = (j : Int) - 1 := by omega
  have z' := hn.cellOf z
  have hg' := hn.cellOf hg
  have c0 := R.cell (i := 0) rfl
  have c1 := R.cell (i := 1) rfl
  have a1 : IntKind.i64.wrap ((j : Int) - 1 + 1) = (j : Int) := by rw [IntWalk.i64_in _ (by omega)]; omega
  have a3 : (0 : Int) ≤ (j : Int) := by omega
  have a4 : (j : Int) < ((n + 1 : Nat) : Int) := by omega
  have a4' : (j : Int) < (n : Int) + 1 := by omega
  have a5 : IntKind.i64.wrap (f + ln) = f + ln := IntWalk.i64_in _ (by omega)
  have HN := Lib.hid hn
  clear hj h1 hn R hg z
  go_enter Tryd.func110, Tryd.ntmps110
  go_wp2_with fail
  go_quiet (fail)
  go_wp2_with fail
  go_ret
  exact ⟨ret_int H3.out, HN.out.drewN _⟩
end Go.Proofs.YtlhdhfhfdkldjaaDoor
