/-
  turned of the program: a hearing of the same texts from their ends on. Condition: the hearing lies in memory.
-/
import Derived.Test.YthodoabppkeidaaGreatDoorCpCost
import Derived.Test.YthodoabppkeidaaGreatDoorCpGen
import Derived.Lib.RowBridge
import Derived.Deep.Upon
namespace Go.Proofs.YthodoabppkeidaaGreatDoor
open Go Go.RowKit Go.Shelf
def kInts (ks : List Nat) : List Int := ks.map Int.ofNat
theorem keysV_ints (ks : List Nat) : keysV ks = (kInts ks).map (Value.int .i64) := by simp [keysV, kInts]; intro a _; rfl
theorem kInts_len (ks : List Nat) : (kInts ks).length = ks.length := by simp [kInts]
theorem kInts_at (ks : List Nat) {j : Nat} (hj : j < ks.length) : (keysV ks)[j]? = some (.int .i64 ((kInts ks).getD j 0)) := by
  rw [keysV_ints, List.getElem?_map, List.getD_eq_getElem?_getD, List.getElem?_eq_getElem (by rw [kInts_len]; exact hj)]
  rfl
/-- A slice of the call's own reads as what it owns. -/
theorem owns_sl {w : World} {base : Nat} {e : TypeId} {v : Value} {cs : List Value} (h : w.ownsRow base e 1 v cs.length cs) : SlAt w v cs := by
  have h0 := h
  rcases h.2 with ⟨rfl, hz⟩ | ⟨g, cap, cur, rfl, hb, hh, h1, h2, h3, h4⟩
  · rw [List.length_eq_zero_iff] at hz
    subst hz
    exact SlAt.nil w
  · unfold maxLen at h2
    refine ⟨_, cap, rfl, h1, h2, fun _ => ⟨g, 0, rfl, (Array.getElem?_eq_some_iff.1 hh).1, fun i x hx => ?_⟩⟩
    have hi : i < cs.length := (List.getElem?_eq_some_iff.1 hx).1
    rw [Nat.zero_add, h0.cellAt i (by omega), hx]
theorem grown_of {w w' : World} (h : New w w') (r : Option Nat) : w.grownBy w' r := ⟨h.out.os, h.out.tape, h.out.output, h.size, fun k hk _ => h.out.block k hk⟩
theorem owns_keep {w w' : World} {base : Nat} {e : TypeId} {size : Nat} {v : Value} {n : Nat} {xs : List Value} (h : w.ownsRow base e size v n xs) (k : New w w') : w'.ownsRow base e size v n xs := by
  obtain ⟨h1, h2⟩ := h
  refine ⟨h1, ?_⟩
  rcases h2 with h2 | ⟨g, cap, cur, rfl, hb, hh, h3⟩
  · exact Or.inl h2
  · exact Or.inr ⟨g, cap, cur, rfl, hb, heap_keep k hh, h3⟩
/-- slices.Clone at keys. -/
theorem cp_clone_key (ks : List Nat) (v : Value) (w : World) (h : SlAt w v (keysV ks)) (hl : ks.length ≤ 1000) :
    Calls Tryz.prog 98 #[v] w fun e w' => ∃ v', e = .returned v' ∧ (w'.ownsRow w.heap.size 66 1 v' ks.length (keysV ks) ∧ New w w') := by
  obtain ⟨A, c, rfl, h1, h2, h3⟩ := h
  rw [keysV_len] at h1 h3 ⊢
  cases A with
  | none =>
    have hz : ks.length = 0 := by
      rcases Nat.eq_zero_or_pos ks.length with h0 | h0
      · exact h0
      · obtain ⟨b, off, e, _⟩ := h3 h0
        cases e
    have hn := List.eq_nil_of_length_eq_zero hz
    subst hn
    refine (AnyG.slices_Clone_int_nil Tryz.cloneKey 0 c w).mono ?_
    rintro e w' ⟨rfl, rfl⟩
    exact ⟨_, rfl, World.ownsRow_nil _ _ _ _, New.refl _⟩
  | some a =>
    rcases Nat.eq_zero_or_pos ks.length with h0 | h0
    · have hn := List.eq_nil_of_length_eq_zero h0
      subst hn
      refine (AnyG.slices_Clone_int_zero Tryz.cloneKey a c w).mono ?_
      rintro e w' ⟨v', rfl, ho, _, hb⟩
      exact ⟨v', rfl, ho, hb⟩
    · obtain ⟨b, off, e, hb, hc⟩ := h3 h0
      obtain rfl := Option.some.inj e
      refine (AnyG.slices_Clone_int Tryz.cloneKey b off ks.length c (kInts ks) w (by rw [kInts_len]; exact Nat.le_refl _) (by omega) (fun j hj => hc j _ (kInts_at ks (by rw [kInts_len] at hj; exact hj)))).mono ?_
      rintro e w' ⟨v', rfl, ho, _, hb⟩
      rw [List.take_of_length_le (by rw [kInts_len]; exact Nat.le_refl _), ← keysV_ints] at ho
      exact ⟨v', rfl, ho, hb⟩
theorem row_setCells (g : Nat) (e : TypeId) : ∀ (vs : List Value) (o : Nat) (w : World) (cs : List Value), RowIs w g e cs → o + vs.length ≤ cs.length → RowIs (w.setCells g o vs) g e (cs.take o ++ vs ++ cs.drop (o + vs.length))
  | [], o, w, cs, h, _ => by
    rw [World.setCells, List.length_nil, Nat.add_zero, List.append_nil, List.take_append_drop]
    exact h
  | v :: vs, o, w, cs, h, hl => by
    rw [List.length_cons] at hl
    have h2 := row_setCells g e vs (o + 1) (w.setCell ⟨g, o, none⟩ v) (cs.set o v) (h.put o v) (by rw [List.length_set]; omega)
    rw [World.setCells]
    have e1 : (cs.set o v).take (o + 1) = cs.take o ++ [v] := by
      rw [List.take_succ_eq_append_getElem (by rw [List.length_set]; omega), List.getElem_set_self, List.take_set_of_le (Nat.le_refl _)]
    have e2 : (cs.set o v).drop (o + 1 + vs.length) = cs.drop (o + (v :: vs).length) := by
      rw [List.drop_set_of_lt (by omega), List.length_cons]
      congr 1
      omega
    rw [e1, e2, List.append_assoc (cs.take o)] at h2
    exact h2
theorem setCells_grown {w : World} {g : Nat} (vs : List Value) (o : Nat) : w.grownBy (w.setCells g o vs) (some g) := by
  refine ⟨World.os_setCells w g o vs, ?_, World.output_setCells w g o vs, ?_, fun k hk hne => World.heap_setCells_other w g o vs hk (fun e => hne (by rw [e]))⟩
  · induction vs generalizing o w with
    | nil => rfl
    | cons v vs ih => rw [World.setCells, ih]; rfl
  · induction vs generalizing o w with
    | nil => exact Nat.le_refl _
    | cons v vs ih =>
      rw [World.setCells]
      have := ih (w := w.setCell ⟨g, o, none⟩ v) (o := o + 1)
      simpa [World.setCell] using this
/-- slices.Reverse at keys of the call's own. -/
theorem cp_rev_key (base : Nat) (ks : List Nat) (v : Value) (w : World) (h : w.ownsRow base 66 1 v ks.length (keysV ks)) :
    Calls Tryz.prog 99 #[v] w fun e w' => e = .returned (.tuple #[]) ∧ (w'.ownsRow base 66 1 v ks.length (keysV ks.reverse) ∧ w.grownBy w' v.ownBlock) := by
  have h0 := h
  obtain ⟨hl, h2⟩ := h
  rcases h2 with ⟨rfl, hz⟩ | ⟨g, cap, cur, rfl, hb, hh, h3, h4, h5, h6⟩
  · have hn := List.eq_nil_of_length_eq_zero hz
    subst hn
    refine (AnyG.slices_Reverse_int_empty Tryz.revKey none 0 w).mono ?_
    rintro e w' ⟨rfl, rfl⟩
    exact ⟨rfl, World.ownsRow_nil _ _ _ _, grown_of (New.refl _) _⟩
  · have hr : RowIs w g 66 cur.toList := hh
    have hcell : ∀ j, j < (kInts ks).length → w.cell? ⟨g, 0 + j, none⟩ = some (.int .i64 ((kInts ks).getD j 0)) := fun j hj => by
      rw [kInts_len] at hj
      rw [Nat.zero_add, h0.cellAt j (by omega)]
      exact kInts_at ks hj
    refine (AnyG.slices_Reverse_int_cells Tryz.revKey g 0 ks.length cap (kInts ks) w (by rw [kInts_len]; exact Nat.le_refl _) (by unfold maxLen at h4; omega) hcell (fun j _ => hr.free _)).mono ?_
    rintro e w' ⟨rfl, q, rfl⟩
    rw [List.take_of_length_le (by rw [kInts_len]; exact Nat.le_refl _)]
    have e1 : (kInts ks).reverse.map (Value.int .i64) = keysV ks.reverse := by
      rw [keysV_ints]; simp [kInts]
    rw [e1]
    have hq : RowIs (w.drewN q) g 66 cur.toList := hr.keep ((New.refl w).drewN q)
    have hcl : ks.length ≤ cur.toList.length := by simp; omega
    have hrow := row_setCells g 66 (keysV ks.reverse) 0 _ cur.toList hq (by rw [keysV_len, List.length_reverse]; omega)
    refine ⟨rfl, ⟨by rw [keysV_len, List.length_reverse]; omega, Or.inr ⟨g, cap, (keysV ks.reverse ++ cur.toList.drop ks.length).toArray, rfl, hb, ?_, h3, h4, ?_, ?_⟩⟩, ?_⟩
    · have e2 : 0 + (keysV ks.reverse).length = ks.length := by rw [keysV_len, List.length_reverse]; omega
      rw [e2, List.take_zero, List.nil_append] at hrow
      exact hrow
    · simp [keysV_len]; omega
    · rw [Nat.mul_one]
      show (keysV ks.reverse ++ cur.toList.drop ks.length).take ks.length = _
      rw [List.take_append_of_le_length (by rw [keysV_len, List.length_reverse]; exact Nat.le_refl _), List.take_of_length_le (by rw [keysV_len, List.length_reverse]; exact Nat.le_refl _)]
    · exact (grown_of ((New.refl w).drewN q) _).trans (setCells_grown _ _)
theorem owns_form {w : World} {base : Nat} {e : TypeId} {size : Nat} {v : Value} {n : Nat} {xs : List Value} (h : w.ownsRow base e size v n xs) : ∃ A c, v = .slice A n c := by
  rcases h.2 with ⟨rfl, hz⟩ | ⟨g, cap, cur, rfl, _⟩
  · subst hz; exact ⟨none, 0, rfl⟩
  · exact ⟨_, _, rfl⟩
theorem owns_base {w : World} {b b' : Nat} {e : TypeId} {size : Nat} {v : Value} {n : Nat} {xs : List Value} (h : w.ownsRow b e size v n xs) (hb : b' ≤ b) : w.ownsRow b' e size v n xs := by
  obtain ⟨h1, h2⟩ := h
  refine ⟨h1, ?_⟩
  rcases h2 with h2 | ⟨g, cap, cur, rfl, hg, h3⟩
  · exact Or.inl h2
  · exact Or.inr ⟨g, cap, cur, rfl, by omega, h3⟩
/-- A store elsewhere. -/
theorem owns_set {w : World} {b : Nat} {e : TypeId} {size : Nat} {v : Value} {n : Nat} {xs : List Value} (h : w.ownsRow b e size v n xs) {p : Nat} (hp : p < b) (i : Nat) (u : Value) : (w.setCell ⟨p, i, none⟩ u).ownsRow b e size v n xs := by
  obtain ⟨h1, h2⟩ := h
  refine ⟨h1, ?_⟩
  rcases h2 with h2 | ⟨g, cap, cur, rfl, hg, hh, h3⟩
  · exact Or.inl h2
  · refine Or.inr ⟨g, cap, cur, rfl, hg, ?_, h3⟩
    simp [World.setCell, Array.getElem?_modify, hh, show p ≠ g by omega]
/-- What a write into a slice of the call's own leaves as it was. -/
theorem grown_below {w w' : World} {b : Nat} {e : TypeId} {size : Nat} {v : Value} {n : Nat} {xs : List Value} (h : w.ownsRow b e size v n xs) (g : w.grownBy w' v.ownBlock) (hb : b ≤ w.heap.size) : Below b w w' :=
  (Below.refl b w).grown g hb (fun k hk => (h.lt k hk).1)
theorem RowIs.below {w w' : World} {g b : Nat} {e : TypeId} {cs : List Value} (h : RowIs w g e cs) (k : Below b w w') (hb : g < b) : RowIs w' g e cs := (k.block g hb).trans h
theorem owns_other {w w' : World} {b b' : Nat} {e e' : TypeId} {size size' : Nat} {v v' : Value} {n n' : Nat} {xs xs' : List Value} (h' : w.ownsRow b' e' size' v' n' xs') (_ : w.ownsRow b e size v n xs) (g : w.grownBy w' v.ownBlock) (hlt : ∀ k, v.ownBlock = some k → k < b') : w'.ownsRow b' e' size' v' n' xs' := by
  obtain ⟨h1, h2⟩ := h'
  refine ⟨h1, ?_⟩
  rcases h2 with h2 | ⟨k, cap, cur, rfl, hg, hh, h3⟩
  · exact Or.inl h2
  · exact Or.inr ⟨k, cap, cur, rfl, hg, (g.block k (Array.getElem?_eq_some_iff.1 hh).1 (fun e => by have := hlt k e.symm; omega)).trans hh, h3⟩
/-- Where the call of turned stands: the receiver's box p, and what of it has been read. -/
def BoxAt (W : World) (p : Nat) (tm : TypeId) (vs vh : Value) (w' : World) : Prop :=
  New W w' ∧ w'.cell? ⟨p, 0, none⟩ = some (.iface tm (.agg #[])) ∧ w'.cell? ⟨p, 1, none⟩ = some vs ∧ w'.cell? ⟨p, 2, none⟩ = some vh ∧ w'.frozen? ⟨p, 0, none⟩ = false ∧ w'.frozen? ⟨p, 1, none⟩ = false ∧ w'.frozen? ⟨p, 2, none⟩ = false
theorem BoxAt.of {W w' : World} {p : Nat} {tm : TypeId} {vs vh : Value} (h : RowIs W p 89 [.iface tm (.agg #[]), vs, vh]) (k : New W w') : BoxAt W p tm vs vh w' :=
  ⟨k, (h.keep k).cell rfl, (h.keep k).cell rfl, (h.keep k).cell rfl, (h.keep k).free 0, (h.keep k).free 1, (h.keep k).free 2⟩
set_option maxRecDepth 100000 in
set_option maxHeartbeats 1000000 in
theorem cp_turned (m : Md) (s h : List Nat) (v : Value) (w : World) (hx : HearAt w m s h v) :
    Calls Tryz.prog 66 #[v] w fun e w' => ∃ v', e = .returned v' ∧ (HearAt w' m s.reverse h.reverse v' ∧ New w w') := by
  obtain ⟨vs, vh, rfl, hs, hh, ks, kh, ls, lh⟩ := hx
  have HC1 : Hid (∀ w', New w w' → Calls Tryz.prog 98 #[vs] w' fun e w'' => ∃ v', e = .returned v' ∧ (w''.ownsRow w'.heap.size 66 1 v' s.length (keysV s) ∧ New w' w'')) :=
    Lib.hid (fun w' hn => cp_clone_key s vs w' (hs.keep hn) (by omega))
  have HC2 : Hid (∀ w', New w w' → Calls Tryz.prog 98 #[vh] w' fun e w'' => ∃ v', e = .returned v' ∧ (w''.ownsRow w'.heap.size 66 1 v' h.length (keysV h) ∧ New w' w'')) :=
    Lib.hid (fun w' hn => cp_clone_key h vh w' (hh.keep hn) (by omega))
  obtain ⟨A1, c1, rfl, -, -, -⟩ := hs
  obtain ⟨A2, c2, rfl, -, -, -⟩ := hh
  rw [keysV_len] at HC1 HC2 ⊢
  rw [keysV_len]
  have HKK := Lib.hid (And.intro ks kh)
  have HR := Lib.hid (RowIs.new w 89 [.iface (medT m) (.agg #[]), .slice A1 s.length c1, .slice A2 h.length c2])
  clear ks kh
  generalize htm : medT m = tm at *
  go_enter Tryz.func66, Tryz.ntmps66
  go_wp2_with fail
  have HP := Lib.hid (HR.out.keep ((New.refl (w.alloc (.cells #[.iface tm (.agg #[]), .slice A1 s.length c1, .slice A2 h.length c2] 89))).alloc (.cells #[.nilIface, .slice none 0 0, .slice none 0 0] 89)))
  have HQ := Lib.hid (RowIs.new (w.alloc (.cells #[.iface tm (.agg #[]), .slice A1 s.length c1, .slice A2 h.length c2] 89)) 89 [.nilIface, .slice none 0 0, .slice none 0 0])
  rw [World.size_alloc] at HQ
  have HW := Lib.hid (((New.refl w).alloc (.cells #[.iface tm (.agg #[]), .slice A1 s.length c1, .slice A2 h.length c2] 89)).alloc (.cells #[.nilIface, .slice none 0 0, .slice none 0 0] 89))
  clear HR
  generalize (w.alloc (.cells #[.iface tm (.agg #[]), .slice A1 s.length c1, .slice A2 h.length c2] 89)).alloc (.cells #[.nilIface, .slice none 0 0, .slice none 0 0] 89) = W at *
  generalize hp : w.heap.size = p at *
  have HB : Hid (∀ w', New W w' → BoxAt W p tm (.slice A1 s.length c1) (.slice A2 h.length c2) w') := Lib.hid (fun w' hn => BoxAt.of HP.out hn)
  unfold BoxAt at HB
  obtain ⟨-, a0, a1, a2, a3, a4, a5⟩ := HB.out W (New.refl W)
  have D1 : Hid (∀ w', New W w' → Calls Tryz.prog 98 #[.slice A1 s.length c1] w' fun e w'' => ∃ X x, e = .returned (.slice X s.length x) ∧ (Hid (w''.ownsRow w'.heap.size 66 1 (.slice X s.length x) s.length (keysV s)) ∧ Hid (New w' w'') ∧ New W w'' ∧ w''.cell? ⟨p, 1, none⟩ = some (.slice A1 s.length c1) ∧ w''.cell? ⟨p, 2, none⟩ = some (.slice A2 h.length c2) ∧ w''.frozen? ⟨p, 1, none⟩ = false ∧ w''.frozen? ⟨p, 2, none⟩ = false)) :=
    Lib.hid (fun w' hn => (HC1.out w' (HW.out.trans hn)).mono fun e w'' ⟨v', he, h1, h2⟩ => by
      obtain ⟨b, -, b1, b2, -, b4, b5⟩ := HB.out w'' (hn.trans h2)
      obtain ⟨X, x, rfl⟩ := owns_form h1
      exact ⟨X, x, he, Lib.hid h1, Lib.hid h2, b, b1, b2, b4, b5⟩)
  have D2 : Hid (∀ w', New W w' → Calls Tryz.prog 98 #[.slice A2 h.length c2] w' fun e w'' => ∃ X x, e = .returned (.slice X h.length x) ∧ (Hid (w''.ownsRow w'.heap.size 66 1 (.slice X h.length x) h.length (keysV h)) ∧ Hid (New w' w'') ∧ New W w'' ∧ w''.cell? ⟨p, 1, none⟩ = some (.slice A1 s.length c1) ∧ w''.cell? ⟨p, 2, none⟩ = some (.slice A2 h.length c2) ∧ w''.frozen? ⟨p, 1, none⟩ = false ∧ w''.frozen? ⟨p, 2, none⟩ = false)) :=
    Lib.hid (fun w' hn => (HC2.out w' (HW.out.trans hn)).mono fun e w'' ⟨v', he, h1, h2⟩ => by
      obtain ⟨b, -, b1, b2, -, b4, b5⟩ := HB.out w'' (hn.trans h2)
      obtain ⟨X, x, rfl⟩ := owns_form h1
      exact ⟨X, x, he, Lib.hid h1, Lib.hid h2, b, b1, b2, b4, b5⟩)
  clear HC1 HC2
  go_region_with (first | ((with_reducible refine (D1.out _ (by first | assumption | exact (New.refl _).drew | exact New.drew (by assumption))).mono ?_); rintro e w1 ⟨X1, x1, rfl, o1, n1, m1, e1, e2, f1, f2⟩) | ((with_reducible refine (D2.out _ (by first | assumption | exact (New.refl _).drew | exact New.drew (by assumption))).mono ?_); rintro e w2 ⟨X2, x2, rfl, o2, n2, m2, e3, e4, f3, f4⟩))
  all_goals
    have q1 : New w1 w2 := by first | exact n2.out | exact ((New.refl w1).drew).trans n2.out | exact ((New.refl w1).drew.drew).trans n2.out
    have q2 : w2.ownsRow w1.heap.size 66 1 (.slice X2 h.length x2) h.length (keysV h) := o2.out
    have q3 : w2.ownsRow W.heap.size 66 1 (.slice X1 s.length x1) s.length (keysV s) := owns_keep (owns_base o1.out (by first | exact Nat.le_refl _ | exact m1.size)) q1
    have q4 : w1.ownsRow W.heap.size 66 1 (.slice X1 s.length x1) s.length (keysV s) := owns_base o1.out (by first | exact Nat.le_refl _ | exact m1.size)
    have q5 : ∀ k, (Value.slice X1 s.length x1).ownBlock = some k → k < w1.heap.size := fun k hk => (q4.lt k hk).2
    have p1 : p + 1 < W.heap.size := by have := HQ.out.lt; omega
    have p2 : W.heap.size ≤ w1.heap.size := by have := m1.size; omega
    have p3 : w1.heap.size ≤ w2.heap.size := q1.size
    have r5 := Lib.hid (((HP.out.keep m2).put 1 (.slice X1 s.length x1)).put 2 (.slice X2 h.length x2))
    have r5q := Lib.hid (((HQ.out.keep m2).other (show p ≠ p + 1 by omega) 1 (.slice X1 s.length x1)).other (show p ≠ p + 1 by omega) 2 (.slice X2 h.length x2))
    have o15 := Lib.hid (owns_set (owns_set q3 (show p < W.heap.size by omega) 1 (.slice X1 s.length x1)) (show p < W.heap.size by omega) 2 (.slice X2 h.length x2))
    have o25 := Lib.hid (owns_set (owns_set q2 (show p < w1.heap.size by omega) 1 (.slice X1 s.length x1)) (show p < w1.heap.size by omega) 2 (.slice X2 h.length x2))
    have n5 := Lib.hid (((HW.out.trans m2).setCell (p := ⟨p, 1, none⟩) (by show w.heap.size ≤ p; omega) (.slice X1 s.length x1)).setCell (p := ⟨p, 2, none⟩) (by show w.heap.size ≤ p; omega) (.slice X2 h.length x2))
    have s5 : w2.heap.size ≤ ((w2.setCell ⟨p, 1, none⟩ (.slice X1 s.length x1)).setCell ⟨p, 2, none⟩ (.slice X2 h.length x2)).heap.size := by simp [World.setCell]
    have Q5 := Lib.hid q5
    generalize (w2.setCell ⟨p, 1, none⟩ (.slice X1 s.length x1)).setCell ⟨p, 2, none⟩ (.slice X2 h.length x2) = w5 at *
    clear o1 o2 n1 n2 m1 m2 e1 e2 e3 e4 f1 f2 f3 f4 q1 q2 q3 q4 q5 a0 a1 a2 a3 a4 a5 D1 D2 HB
    have z1 := r5.out.cell (i := 1) rfl
    go_wp2_with fail
    refine (cp_rev_key _ s _ _ o15.out).mono ?_
    rintro e w6 ⟨rfl, o16, g6⟩
    have b6 := grown_below o15.out g6 (show W.heap.size ≤ w5.heap.size by omega)
    have o26 := Lib.hid (owns_other o25.out o15.out g6 Q5.out)
    have r6 := Lib.hid (r5.out.below b6 (by omega))
    have r6q := Lib.hid (r5q.out.below b6 (by omega))
    have n6 := Lib.hid (show New w w6 from Below.trans n5.out (Below.mono b6 (by omega)))
    have O16 := Lib.hid o16
    have s6 := g6.size
    have G6 := Lib.hid g6
    clear z1 b6 o16 g6
    have z2 := r6.out.cell (i := 2) rfl
    go_wp2_with fail
    refine (cp_rev_key _ h _ _ o26.out).mono ?_
    rintro e w7 ⟨rfl, o27, g7⟩
    have b7 := grown_below o26.out g7 (show w1.heap.size ≤ w6.heap.size by omega)
    have o17 : w7.ownsRow W.heap.size 66 1 (.slice X1 s.length x1) s.length (keysV s.reverse) := O16.out.kept g7 (by
      cases hb1 : (Value.slice X1 s.length x1).ownBlock with
      | none => exact Or.inl rfl
      | some k =>
        refine Or.inr (fun e => ?_)
        have l1 := Q5.out k hb1
        have l2 := (o26.out.lt k e.symm).1
        omega)
    have r7 := r6.out.below b7 (by omega)
    have r7q := r6q.out.below b7 (by omega)
    have n7 := Lib.hid (show New w w7 from Below.trans n6.out (Below.mono b7 (by omega)))
    have c0 := r7.cell (i := 0) rfl
    have c1' := r7.cell (i := 1) rfl
    have c2' := r7.cell (i := 2) rfl
    have d0 := r7q.cell (i := 0) rfl
    have d1 := r7q.cell (i := 1) rfl
    have d2 := r7q.cell (i := 2) rfl
    have f0 := r7q.free 0
    have f1 := r7q.free 1
    have f2 := r7q.free 2
    have R7q := Lib.hid r7q
    have O17 := Lib.hid o17
    have O27 := Lib.hid o27
    clear z2 b7 g7 r7 r7q o17 o27 r5 r5q o15 o25 n5 s5 o26 r6 r6q n6 O16 s6 G6
    go_wp2_with fail
    obtain ⟨y0, y1, y2⟩ := R7q.out.put3 (.iface tm (.agg #[])) (.slice X1 s.length x1) (.slice X2 h.length x2)
    refine bodyPost_ret (v := .agg #[.iface tm (.agg #[]), .slice X1 s.length x1, .slice X2 h.length x2]) (by simp [results, Tryz.results66, go_sem, y0, y1, y2]) rfl ⟨_, rfl, ?_, ?_⟩
    · have e1 : s.length = (keysV s.reverse).length := by rw [keysV_len, List.length_reverse]
      have e2 : h.length = (keysV h.reverse).length := by rw [keysV_len, List.length_reverse]
      have s1 := owns_set (owns_set (owns_set O17.out (show p + 1 < W.heap.size by omega) 0 (.iface tm (.agg #[]))) (show p + 1 < W.heap.size by omega) 1 (.slice X1 s.length x1)) (show p + 1 < W.heap.size by omega) 2 (.slice X2 h.length x2)
      have s2 := owns_set (owns_set (owns_set O27.out (show p + 1 < w1.heap.size by omega) 0 (.iface tm (.agg #[]))) (show p + 1 < w1.heap.size by omega) 1 (.slice X1 s.length x1)) (show p + 1 < w1.heap.size by omega) 2 (.slice X2 h.length x2)
      refine ⟨.slice X1 s.length x1, .slice X2 h.length x2, by rw [htm], owns_sl (base := W.heap.size) (e := 66) (by rw [← e1]; exact s1), owns_sl (base := w1.heap.size) (e := 66) (by rw [← e2]; exact s2), fun k hk => HKK.out.1 k (List.mem_reverse.1 hk), fun k hk => HKK.out.2 k (List.mem_reverse.1 hk), by rw [List.length_reverse]; exact ls, by rw [List.length_reverse]; exact lh⟩
    · exact ((n7.out.setCell (by show w.heap.size ≤ p + 1; omega) _).setCell (by show w.heap.size ≤ p + 1; omega) _).setCell (by show w.heap.size ≤ p + 1; omega) _
end Go.Proofs.YthodoabppkeidaaGreatDoor
