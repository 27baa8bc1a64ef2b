/-
  table of the program: the rows of the table of two texts, each in memory of its own. Condition: the hearing and the tables lie in memory.
-/
import Derived.Test.YthodoabppkeidaaGreatDoorCpChunk
import Derived.Test.YthodoabppkeidaaGreatDoorCpFence
import Derived.Deep.AppendLies
import Derived.RangeFuncWrites
import Derived.Maps.AppendAt
namespace Go.Proofs.YthodoabppkeidaaGreatDoor
open Go Go.RowKit Go.Shelf
attribute [local go_sem] Oper.semAt_some
def intV (k : Nat) : Value := .int .i64 k
/-- The i-th row of the table of two lists. -/
def tabRow (c : Cs Nat) (s h : List Nat) (i : Nat) : List Value := (List.range (h.length + 1)).map fun k => intV (lc c (s.take i) (h.take k))
/-- Slices of the call's own that hold rows. -/
def RowsO (W : World) (n0 : Nat) (vs : List Value) (rs : List (List Value)) : Prop := vs.length = rs.length ∧ ∀ (i : Nat) v r, vs[i]? = some v → rs[i]? = some r → W.ownsRow n0 3 1 v r.length r
/-- A slice of slices that holds these rows. -/
def TabsAt (W : World) (n0 : Nat) (v : Value) (rs : List (List Value)) : Prop := ∃ vs, W.ownsRow n0 25 1 v rs.length vs ∧ RowsO W n0 vs rs
theorem RowsO.keep {W W' : World} {n0 : Nat} {vs : List Value} {rs : List (List Value)} (h : RowsO W n0 vs rs) (k : New W W') : RowsO W' n0 vs rs := ⟨h.1, fun i v r h1 h2 => owns_keep (h.2 i v r h1 h2) k⟩
theorem TabsAt.keep {W W' : World} {n0 : Nat} {v : Value} {rs : List (List Value)} (h : TabsAt W n0 v rs) (k : New W W') : TabsAt W' n0 v rs := by
  obtain ⟨vs, h1, h2⟩ := h
  exact ⟨vs, owns_keep h1 k, h2.keep k⟩
theorem RowsO.snoc {W : World} {n0 : Nat} {vs : List Value} {rs : List (List Value)} (h : RowsO W n0 vs rs) {u : Value} {row : List Value} (hu : W.ownsRow n0 3 1 u row.length row) : RowsO W n0 (vs ++ [u]) (rs ++ [row]) := by
  refine ⟨by simp [h.1], fun i v r h1 h2 => ?_⟩
  rcases Nat.lt_or_ge i vs.length with hlt | hge
  · rw [List.getElem?_append_left hlt] at h1
    rw [List.getElem?_append_left (by have := h.1; omega)] at h2
    exact h.2 i v r h1 h2
  · have hi := (List.getElem?_eq_some_iff.1 h1).1
    rw [List.length_append, List.length_singleton] at hi
    obtain rfl : i = vs.length := by omega
    rw [List.getElem?_concat_length] at h1
    rw [h.1, List.getElem?_concat_length] at h2
    obtain rfl := Option.some.inj h1
    obtain rfl := Option.some.inj h2
    exact hu
/-- Two slices of the call's own, of different elements, lie in different blocks. -/
theorem owns_ne {w : World} {b b' : Nat} {e e' : TypeId} {size size' : Nat} {v v' : Value} {n n' : Nat} {xs xs' : List Value} (h' : w.ownsRow b' e' size' v' n' xs') (h : w.ownsRow b e size v n xs) (hne : e ≠ e') : v'.ownBlock = none ∨ v'.ownBlock ≠ v.ownBlock := by
  rcases h'.2 with ⟨rfl, _⟩ | ⟨g', cap', cur', rfl, _, hg', _⟩
  · exact .inl rfl
  · refine .inr fun e1 => ?_
    rcases h.2 with ⟨rfl, _⟩ | ⟨g, cap, cur, rfl, _, hg, _⟩
    · simp [Value.ownBlock] at e1
    · obtain rfl : g' = g := by simpa [Value.ownBlock] using e1
      rw [hg] at hg'
      simp at hg'
      exact hne hg'.2
/-- Between two rounds: the rows that have come lie in memory of their own, and the slice of them in a box at n0. -/
def RowsB (W : World) (p n0 : Nat) (rs : List (List Value)) (v : Value) (vs : List Value) : Prop := Boxed W p 23 v ∧ W.ownsRow n0 25 1 v rs.length vs ∧ RowsO W n0 vs rs
theorem RowsB.keep {W W' : World} {p n0 : Nat} {rs : List (List Value)} {v : Value} {vs : List Value} (h : RowsB W p n0 rs v vs) (k : New W W') : RowsB W' p n0 rs v vs := ⟨h.1.kept (grown_of k none) (by simp), owns_keep h.2.1 k, h.2.2.keep k⟩
theorem rowsB_own {β : Type} (p n0 : Nat) (f : β → List (List Value)) : Own (fun (s : β) W => ∃ v vs, RowsB W p n0 (f s) v vs) := by
  rintro s X Y row ⟨v, vs, hv, ho, hl, hr⟩ hg hrow
  have hown : ∀ {e : TypeId} {u : Value} {k : Nat} {xs : List Value}, X.ownsRow n0 e 1 u k xs → Y.ownsRow n0 e 1 u k xs := fun {e u k xs} h => h.kept hg (by
    rcases h.2 with ⟨rfl, _⟩ | ⟨g, cap, cur, rfl, _, hgb, _⟩
    · exact .inl rfl
    · refine .inr fun e' => ?_
      obtain ⟨o, ho, hc⟩ := hrow g (by simpa [Value.ownBlock] using e'.symm)
      rw [hgb] at ho
      cases ho
      cases hc)
  refine ⟨v, vs, hv.kept hg (fun e' => ?_), hown ho, hl, fun i v r h1 h2 => hown (hr i v r h1 h2)⟩
  obtain ⟨o, ho, hc⟩ := hrow p e'.symm
  rw [show X.heap[p]? = _ from hv] at ho
  cases ho
  cases hc
/-- One row more. -/
theorem RowsB.more {W w3 : World} {p n0 n cap g : Nat} {rs : List (List Value)} {v : Value} {vs : List Value} {tmp : Obj} {u : Value} {row : List Value} (h : RowsB W p n0 rs v vs) (hu : W.ownsRow n0 3 1 u row.length row) (hn : n0 ≤ W.heap.size) (hp : p < n0) (hl : rs.length = n)
    (ho : w3.ownsRow n0 25 1 (.slice (some ⟨g, 0, none⟩) (n + 1) cap) (n + 1) (vs ++ [u])) (hg : (W.alloc tmp).grownBy w3 v.ownBlock) :
    Boxed w3 p 23 v ∧ RowsB (w3.setCell ⟨p, 0, none⟩ (.slice (some ⟨g, 0, none⟩) (n + 1) cap)) p n0 (rs ++ [row]) (.slice (some ⟨g, 0, none⟩) (n + 1) cap) (vs ++ [u]) ∧ KeepsOthers W (w3.setCell ⟨p, 0, none⟩ (.slice (some ⟨g, 0, none⟩) (n + 1) cap)) ∧ Below p W (w3.setCell ⟨p, 0, none⟩ (.slice (some ⟨g, 0, none⟩) (n + 1) cap)) ∧
      ∀ q, q < n0 → q ≠ p → (w3.setCell ⟨p, 0, none⟩ (.slice (some ⟨g, 0, none⟩) (n + 1) cap)).heap[q]? = W.heap[q]? := by
  subst hl
  obtain ⟨h1, h2, h3⟩ := h
  obtain ⟨a1, a2, _, a4, a5⟩ := h1.appended (by decide) (owns_base h2 (Nat.le_of_lt hp)) (by omega) (Nat.le_refl _) (owns_base ho (Nat.le_of_lt hp)) hg
  have a3 : (w3.setCell ⟨p, 0, none⟩ (.slice (some ⟨g, 0, none⟩) (rs.length + 1) cap)).ownsRow n0 25 1 (.slice (some ⟨g, 0, none⟩) (rs.length + 1) cap) (rs.length + 1) (vs ++ [u]) := owns_set ho hp 0 _
  have hk : New W (W.alloc tmp) := (New.refl W).alloc tmp
  have hown : ∀ {u : Value} {k : Nat} {xs : List Value}, W.ownsRow n0 3 1 u k xs → (w3.setCell ⟨p, 0, none⟩ (.slice (some ⟨g, 0, none⟩) (rs.length + 1) cap)).ownsRow n0 3 1 u k xs := fun {u k xs} h => by
    have h4 := (owns_keep h hk).kept hg (owns_ne (owns_keep h hk) (owns_keep h2 hk) (by decide))
    exact owns_set h4 hp 0 _
  have h5 : RowsO (w3.setCell ⟨p, 0, none⟩ (.slice (some ⟨g, 0, none⟩) (rs.length + 1) cap)) n0 vs rs := ⟨h3.1, fun i v r h1 h2 => hown (h3.2 i v r h1 h2)⟩
  have h6 : Below n0 W w3 := Below.trans (Below.mono hk hn) (grown_below (owns_keep h2 hk) hg (Nat.le_trans hn hk.size))
  refine ⟨a1, ⟨a2, by rw [List.length_append, List.length_singleton]; exact a3, h5.snoc (hown hu)⟩, a4, a5, fun q hq hne => ?_⟩
  exact (World.heap_setCells_other w3 p 0 [.slice (some ⟨g, 0, none⟩) (rs.length + 1) cap] (Nat.lt_of_lt_of_le (Nat.lt_of_lt_of_le hq hn) h6.size) hne).trans (h6.block q hq)
/-- The world of a round. -/
def RowsI (w2 : World) (b : Nat) (c : Cs Nat) (s h : List Nat) (pre : List (Ck (s.length + 1))) (W : World) : Prop :=
  (∃ v vs, RowsB W w2.heap.size b (pre.map fun x => tabRow c s h x.1) v vs) ∧ (Below w2.heap.size w2 W ∧ b ≤ W.heap.size)
theorem info_int1 : (Tryz.prog.info? 25).map (fun i => (i.zero, i.size, i.bytes)) = some (some (.slice none 0 0), 1, 24) := by kernel_rfl
theorem under_ints : Tryz.prog.underlying 23 = some (.slice 25) := by kernel_rfl
theorem tabRow_ints (c : Cs Nat) (s h : List Nat) (i : Nat) : tabRow c s h i = ((List.range (h.length + 1)).map fun k => ((lc c (s.take i) (h.take k) : Nat) : Int)).map (Value.int .i64) := by
  rw [tabRow, List.map_map]
  rfl
theorem tabRow_len (c : Cs Nat) (s h : List Nat) (i : Nat) : (tabRow c s h i).length = h.length + 1 := by simp [tabRow]
/-- slices.Clone of a row of the table. -/
theorem cp_clone_row {F : List Bytes} {m : Md} {s h : List Nat} {w : World} {g N : Nat} (hf : Filled w g 3 (mdC F m) s h N N) (hN : N = tabN s h) (lh : h.length ≤ 64) (x : Ck (s.length + 1)) :
    Calls Tryz.prog 101 #[ckV g (h.length + 1) x] w fun e w' => ∃ v', e = .returned v' ∧ (w'.ownsRow w.heap.size 3 1 v' (tabRow (mdC F m) s h x.1).length (tabRow (mdC F m) s h x.1) ∧ New w w') := by
  have hx := x.2
  have hl : ((List.range (h.length + 1)).map fun k => ((lc (mdC F m) (s.take x.1) (h.take k) : Nat) : Int)).length = h.length + 1 := by simp
  have hb : x.1 * (h.length + 1) + (h.length + 1) ≤ N := by
    have h3 : (x.1 + 1) * (h.length + 1) ≤ (s.length + 1) * (h.length + 1) := Nat.mul_le_mul_right _ (by omega)
    rw [Nat.add_mul, Nat.one_mul] at h3
    rw [hN, tabN]
    exact h3
  refine (AnyG.slices_Clone_int Tryz.cloneInt g (x.1 * (h.length + 1)) (h.length + 1) (h.length + 1) ((List.range (h.length + 1)).map fun k => ((lc (mdC F m) (s.take x.1) (h.take k) : Nat) : Int)) w (by rw [hl]; exact Nat.le_refl _) (by omega) (fun j hj => ?_)).mono ?_
  · rw [hl] at hj
    rw [hf.cell (q := x.1 * (h.length + 1) + j) (by omega), dpAt_at _ _ _ (by omega), List.getD_eq_getElem?_getD, List.getElem?_map, List.getElem?_range hj]
    rfl
  · rintro e w' ⟨v', rfl, ho, _, hb⟩
    rw [List.take_of_length_le (by rw [hl]; exact Nat.le_refl _), ← tabRow_ints] at ho
    exact ⟨v', rfl, by rw [tabRow_len]; exact ho, hb⟩
set_option maxRecDepth 100000 in
set_option maxHeartbeats 2000000 in
theorem cp_table (F : List Bytes) (m : Md) (s h : List Nat) (v : Value) (w : World) (hT : TabAt w F) (hx : HearAt w m s h v) :
    Calls Tryz.prog 67 #[v] w fun e w' => ∃ v', e = .returned v' ∧ (TabsAt w' w.heap.size v' ((List.range (s.length + 1)).map (tabRow (mdC F m) s h)) ∧ New w w') := by
  obtain ⟨vs, vh, rfl, hs, hh, ks, kh, ls, lh⟩ := hx
  have HT := Lib.hid hT
  have HS := Lib.hid hs
  have HH := Lib.hid hh
  obtain ⟨A1, c1, rfl, -, -, -⟩ := hs
  obtain ⟨A2, c2, rfl, -, -, -⟩ := hh
  rw [keysV_len] at HS HH ⊢
  rw [keysV_len]
  have HR := Lib.hid (RowIs.new w 89 [.iface (medT m) (.agg #[]), .slice A1 s.length c1, .slice A2 h.length c2])
  have HC := Lib.hid (cp_cells m A1 A2 s.length h.length c1 c2)
  have HF := Lib.hid (cp_fill_key F m)
  have HKS := Lib.hid ks
  have HKH := Lib.hid kh
  have hT1 : Fence.wide.fn 97 := trivial
  have hT2 : Fence.wide.fn 96 := trivial
  have hT3 : Fence.wide.fn 100 := trivial
  have hT4 : Fence.wide.fn 101 := trivial
  clear ks kh hT
  generalize htm : medT m = tm at *
  refine (callsIn_wide (n := 6)).1 ?_
  refine callsIn_of_wp_marks Tryz.func67 rfl trivial ?_ rfl
  simp only [Tryz.ntmps67, List.size_toArray, List.length_cons, List.length_nil, Nat.reduceAdd, Nat.reduceSub, Array.replicate_succ, Array.replicate_zero, List.push_toArray, List.append_toArray, List.nil_append, List.cons_append]
  have HN0 := Lib.hid ((New.refl w).alloc (.cells #[.iface tm (.agg #[]), .slice A1 s.length c1, .slice A2 h.length c2] 89))
  have hsz : (w.alloc (.cells #[.iface tm (.agg #[]), .slice A1 s.length c1, .slice A2 h.length c2] 89)).heap.size = w.heap.size + 1 := by simp
  have HFL : Hid (∀ w1, New (w.alloc (.cells #[.iface tm (.agg #[]), .slice A1 s.length c1, .slice A2 h.length c2] 89)) w1 → RowIs w1 (w.heap.size + 1 + 1) 3 (List.replicate ((s.length + 1) * (h.length + 1)) (.int .i64 0)) →
      Calls Tryz.prog 96 #[.slice (some ⟨w.heap.size + 1 + 1, 0, none⟩) ((s.length + 1) * (h.length + 1)) ((s.length + 1) * (h.length + 1)), .slice A1 s.length c1, .slice A2 h.length c2, .iface tm (.agg #[])] w1 fun e w2 =>
        e = .returned (.int .i64 (lc (mdC F m) s h : Nat)) ∧ (New (w.alloc (.cells #[.iface tm (.agg #[]), .slice A1 s.length c1, .slice A2 h.length c2] 89)) w2 ∧ Filled w2 (w.heap.size + 1 + 1) 3 (mdC F m) s h ((s.length + 1) * (h.length + 1)) ((s.length + 1) * (h.length + 1)))) := Lib.hid (fun w1 hn hrow => by
    have hT2 := HT.out.keep (HN0.out.trans hn)
    have l1 := HT.out.lt
    have o1 := HS.out.off (HN0.out.trans hn) (show w.heap.size ≤ w.heap.size + 1 + 1 by omega)
    have o2 := HH.out.off (HN0.out.trans hn) (show w.heap.size ≤ w.heap.size + 1 + 1 by omega)
    have hN : (s.length + 1) * (h.length + 1) ≤ 4225 := tabN_le ls lh
    have hc := HF.out (w.heap.size + 1 + 1) _ ((s.length + 1) * (h.length + 1)) ((s.length + 1) * (h.length + 1)) s h _ _ _ w1 hT2 (by omega) (by omega) HKS.out HKH.out hrow (by rw [List.length_replicate]) (Nat.le_refl _) (by omega) (Nat.le_refl _) o1 o2
    exact hc.mono fun e w'' ⟨h1, h2, h3⟩ => ⟨h1, Upd.new hn (by omega) h2, h3⟩)
  have HCH : Hid (∀ W, CallsIn Fence.wide 5 Tryz.prog 100 #[.slice (some ⟨w.heap.size + 1 + 1, 0, none⟩) ((s.length + 1) * (h.length + 1)) ((s.length + 1) * (h.length + 1)), .int .i64 ((h.length : Int) + 1)] W fun e w' =>
      e = .returned (.func (.func 121) #[] #[.pointer (some ⟨W.heap.size, 0, none⟩), .pointer (some ⟨W.heap.size + 1, 0, none⟩)]) ∧ w' = (W.alloc (.cells #[.slice (some ⟨w.heap.size + 1 + 1, 0, none⟩) ((s.length + 1) * (h.length + 1)) ((s.length + 1) * (h.length + 1))] 25)).alloc (.cells #[.int .i64 ((h.length : Int) + 1)] 3)) :=
    Lib.hid (fun W => cp_Chunk Fence.wide 5 trivial rfl (some ⟨w.heap.size + 1 + 1, 0, none⟩) ((s.length + 1) * (h.length + 1)) ((s.length + 1) * (h.length + 1)) (h.length + 1) (by omega) W)
  have HNN : Hid ((s.length + 1) * (h.length + 1) = tabN s h) := Lib.hid rfl
  have c0 := HR.out.cell (i := 0) rfl
  have c1' := HR.out.cell (i := 1) rfl
  have c2' := HR.out.cell (i := 2) rfl
  gi_wp2_with (first | (gi_at_call 97; refine (callsIn_wide.2 (HC.out _ ls lh)).mono ?_; rintro e w1 ⟨rfl, r1, n1⟩; rw [hsz] at r1 ⊢; have R1 := Lib.hid r1; have N1 := Lib.hid n1; clear r1 n1; have d0 := (HR.out.keep N1.out).cell (i := 0) rfl; have d1 := (HR.out.keep N1.out).cell (i := 1) rfl; have d2 := (HR.out.keep N1.out).cell (i := 2) rfl) | (gi_at_call 96; refine (callsIn_wide.2 (HFL.out _ N1.out R1.out)).mono ?_; rintro e w2 ⟨rfl, n2, f2⟩; have N2 := Lib.hid n2; have F2 := Lib.hid f2; clear n2 f2; have e2 := fun o => cell_alloc_some o ((HR.out.keep N2.out).cell (i := 2) rfl)) | (gi_at_call 100; refine (HCH.out _).mono ?_; rintro e w3 ⟨rfl, rfl⟩))
  clear hT1 hT2 hT3 c0 c1' c2' d0 d1 d2 e2
  have bO := Boxed.new w2 23 (.slice none 0 0)
  have bS := Boxed.new (w2.alloc (.cells #[.slice none 0 0] 23)) 25 (.slice (some ⟨w.heap.size + 1 + 1, 0, none⟩) ((s.length + 1) * (h.length + 1)) ((s.length + 1) * (h.length + 1)))
  have bM := Boxed.new ((w2.alloc (.cells #[.slice none 0 0] 23)).alloc (.cells #[.slice (some ⟨w.heap.size + 1 + 1, 0, none⟩) ((s.length + 1) * (h.length + 1)) ((s.length + 1) * (h.length + 1))] 25)) 3 (.int .i64 ((h.length : Int) + 1))
  simp only [World.size_alloc] at bS bM
  have hs1 : ((((w2.alloc (.cells #[.slice none 0 0] 23)).alloc (.cells #[.slice (some ⟨w.heap.size + 1 + 1, 0, none⟩) ((s.length + 1) * (h.length + 1)) ((s.length + 1) * (h.length + 1))] 25)).alloc (.cells #[.int .i64 ((h.length : Int) + 1)] 3))).heap.size = w2.heap.size + 1 + 1 + 1 := by simp
  have hB0 : Below w2.heap.size w2 (((w2.alloc (.cells #[.slice none 0 0] 23)).alloc (.cells #[.slice (some ⟨w.heap.size + 1 + 1, 0, none⟩) ((s.length + 1) * (h.length + 1)) ((s.length + 1) * (h.length + 1))] 25)).alloc (.cells #[.int .i64 ((h.length : Int) + 1)] 3)) := (((Below.refl _ w2).alloc (Nat.le_refl _) _).alloc (by simp) _).alloc (by simp; omega) _
  have bO' := (bO.alloc (.cells #[.slice (some ⟨w.heap.size + 1 + 1, 0, none⟩) ((s.length + 1) * (h.length + 1)) ((s.length + 1) * (h.length + 1))] 25)).alloc (.cells #[.int .i64 ((h.length : Int) + 1)] 3)
  have bS' := bS.alloc (.cells #[.int .i64 ((h.length : Int) + 1)] 3)
  generalize hWW : (((w2.alloc (.cells #[.slice none 0 0] 23)).alloc (.cells #[.slice (some ⟨w.heap.size + 1 + 1, 0, none⟩) ((s.length + 1) * (h.length + 1)) ((s.length + 1) * (h.length + 1))] 25)).alloc (.cells #[.int .i64 ((h.length : Int) + 1)] 3)) = WW at *
  have HSEQ : SeqStopsK Fence.wide 5 Tryz.prog 121 #[.pointer (some ⟨w2.heap.size + 1, 0, none⟩), .pointer (some ⟨w2.heap.size + 1 + 1, 0, none⟩)] (fun x : Ck (s.length + 1) => #[ckV (w.heap.size + 1 + 1) (h.length + 1) x]) (KpC (w2.heap.size + 1) (w2.heap.size + 1 + 1)) (fun ys => ys.map (·.1) = List.range (s.length + 1)) (fun _ => True) (s.length + 1) WW := fun l J Jx W hW hJ _ hY h0 => by
    have z1 : W.cell? ⟨w2.heap.size + 1, 0, none⟩ = some (.slice (some ⟨w.heap.size + 1 + 1, 0, none⟩) ((s.length + 1) * (h.length + 1)) ((s.length + 1) * (h.length + 1))) := (hW.cell (p := ⟨w2.heap.size + 1, 0, none⟩) (by show w2.heap.size + 1 < _; omega)).trans bS'.cell
    have z2 : W.cell? ⟨w2.heap.size + 1 + 1, 0, none⟩ = some (.int .i64 ((h.length : Int) + 1)) := (hW.cell (p := ⟨w2.heap.size + 1 + 1, 0, none⟩) (by show w2.heap.size + 1 + 1 < _; omega)).trans bM.cell
    have hN : (s.length + 1) * (h.length + 1) ≤ 4225 := tabN_le ls lh
    exact cp_Chunk1 Fence.wide 5 trivial rfl (by omega) l (w2.heap.size + 1) (w2.heap.size + 1 + 1) (w.heap.size + 1 + 1) (s.length + 1) (h.length + 1) ((s.length + 1) * (h.length + 1)) (by omega) (by omega) (by omega) (Nat.le_refl _) (by omega) J Jx (fun a A B hs hg => hJ a A B none hs hg (fun r e => by cases e)) hY W z1 (by rw [z2]; rfl) h0
  refine wpIn_rangeFunc_ownG rfl (by omega) (gf := 121) (lb := #[.pointer (some ⟨w2.heap.size + 1, 0, none⟩), .pointer (some ⟨w2.heap.size + 1 + 1, 0, none⟩)]) rfl trivial (enters_of Tryz.func121 (by kernel_rfl) rfl)
    HSEQ (fun {A B C} h k => KpC.trans h k) (fun W l o o' hl h1 h2 h3 => ?hkb) (Below.refl _ _) (fun _ => rfl)
    (fun pre W => RowsI w2 WW.heap.size (mdC F m) s h pre W) (fun _ _ _ => False)
    (OwnFrom.and (Own.from (rowsB_own w2.heap.size WW.heap.size (fun pre : List (Ck (s.length + 1)) => pre.map fun x => tabRow (mdC F m) s h x.1)) _) (OwnFrom.and (ownFrom_below (Nat.le_refl _) (by rw [hs1]; omega)) (fun _ _ _ _ hs hg _ => Nat.le_trans hs hg.size))) (fun _ _ _ _ _ hs _ _ => hs)
    ⟨⟨_, _, bO', World.ownsRow_nil _ _ _ _, rfl, fun i v r h1 _ => by simp at h1⟩, hB0, Nat.le_refl _⟩
    (fun x => { tmps := #[.agg #[.iface tm (.agg #[]), .slice A1 s.length c1, .slice A2 h.length c2], .pointer (some ⟨w.heap.size, 0, none⟩), .slice none 0 0, .slice (some ⟨w.heap.size + 1 + 1, 0, none⟩) ((s.length + 1) * (h.length + 1)) ((s.length + 1) * (h.length + 1)), .pointer (some ⟨w2.heap.size, 0, none⟩), ckV (w.heap.size + 1 + 1) (h.length + 1) x, .agg #[.iface tm (.agg #[]), .slice A1 s.length c1, .slice A2 h.length c2], .slice (some ⟨w.heap.size + 1 + 1, 0, none⟩) ((s.length + 1) * (h.length + 1)) ((s.length + 1) * (h.length + 1)), .slice (some ⟨w.heap.size + 1 + 1, 0, none⟩) ((s.length + 1) * (h.length + 1)) ((s.length + 1) * (h.length + 1)), .pointer (some ⟨w.heap.size, 1, none⟩), .slice A1 s.length c1, .pointer (some ⟨w.heap.size, 2, none⟩), .slice A2 h.length c2, .pointer (some ⟨w.heap.size, 0, none⟩), .iface tm (.agg #[]), .int .i64 (lc (mdC F m) s h : Nat), .slice (some ⟨w.heap.size + 1 + 1, 0, none⟩) ((s.length + 1) * (h.length + 1)) ((s.length + 1) * (h.length + 1)), .pointer (some ⟨w.heap.size, 2, none⟩), .slice A2 h.length c2, .int .i64 h.length, .int .i64 ((h.length : Int) + 1), .func (.func 121) #[] #[.pointer (some ⟨w2.heap.size + 1, 0, none⟩), .pointer (some ⟨w2.heap.size + 1 + 1, 0, none⟩)], ckV (w.heap.size + 1 + 1) (h.length + 1) x, undef, undef, undef, undef, undef, undef], defers := [] }) ?assign ?body ?done ?stop
  case hkb =>
    have hb := belowK_b (n₀ := w2.heap.size + 1 + 1 + 1) (w := WW) (by rw [hs1]; exact Nat.le_refl _) W l o o' hl h1 h2 h3
    exact ⟨hb.cell (p := ⟨w2.heap.size + 1, 0, none⟩) (by show w2.heap.size + 1 < _; omega), hb.cell (p := ⟨w2.heap.size + 1 + 1, 0, none⟩) (by show w2.heap.size + 1 + 1 < _; omega)⟩
  case stop =>
    rintro D c pre W _ _ h _
    exact h.elim
  case assign =>
    intro l x W K hK
    gi_wp2
    exact hK
  case body =>
    rintro l pre x W ⟨⟨v, vs, hv⟩, hB, hS⟩ hlt
    gi_wp2
    refine region_round (fun a W' => KeepsFrom WW.heap.size W W' ∧ KpC (w2.heap.size + 1) (w2.heap.size + 1 + 1) W W' ∧ RowsI w2 WW.heap.size (mdC F m) s h (pre ++ [x]) W') (by kernel_rfl) ?hops ?hany ?hR
    case hops =>
      intro i o ho c hc
      rcases i with _ | _ | _ | _ | _ | _ | i
      all_goals first
        | (cases ho; cases hc)
        | (exact absurd ho (by simp))
    case hR => exact fun _ _ h => h
    case hany =>
      refine wpAny_take (i := 1) (v := ckV (w.heap.size + 1 + 1) (h.length + 1) x) rfl (by kernel_rfl) (by kernel_rfl) (by kernel_rfl) (fun _ _ _ h => h) (Or.inl ⟨by rfl, ?hy⟩) ?rest
      case hy => intro w; go_simp
      case rest =>
        have hc := hv.1.cell
        have hcd : W.drew.cell? ⟨w2.heap.size, 0, none⟩ = some v := hc
        have hFW : Filled W.drew (w.heap.size + 1 + 1) 3 (mdC F m) s h ((s.length + 1) * (h.length + 1)) ((s.length + 1) * (h.length + 1)) := F2.out.keep (Below.drew hB)
        obtain ⟨i0, hi, hz0, hz1, hz2⟩ := info_parts info_int1
        refine wpAny_ready (rs := [0, 2]) (by kernel_rfl) (by simp) ?_
        refine AllReady.cons rfl (fun K hK => ?o1) (AllReady.cons rfl (fun K hK => ?o2) AllReady.nil)
        case' o1 =>
          go_simp
          refine hK _ _ ?_
          clear hK K
          refine wpAny_ready (rs := [2]) (by kernel_rfl) (by simp) ?_
          refine AllReady.cons rfl (fun K hK => ?_) AllReady.nil
          go_simp
          refine (cp_clone_row hFW rfl lh x).mono ?_
          rintro e w1 ⟨u, rfl, ou, nu⟩
          have n1 : New W w1 := Below.trans (Below.drew (New.refl W)) nu
          obtain ⟨A, c, rfl⟩ := owns_form ou
          have hv1 := hv.keep n1
          refine hK _ _ ?_
          clear hK K
          refine wpAny_ready (rs := [3]) (by kernel_rfl) (by simp) ?_
          refine AllReady.cons rfl (fun K hK => ?_) AllReady.nil
          go_simp
          refine hK _ _ ?_
          clear hK K
        case' o2 =>
          go_simp
          refine (cp_clone_row hFW rfl lh x).mono ?_
          rintro e w1 ⟨u, rfl, ou, nu⟩
          have n1 : New W w1 := Below.trans (Below.drew (New.refl W)) nu
          obtain ⟨A, c, rfl⟩ := owns_form ou
          have hv1 := hv.keep n1
          have hc1 := hv1.1.cell
          have hc2 := (hv1.1.alloc (.cells #[.slice A (tabRow (mdC F m) s h x.1).length c] 25)).cell
          refine hK _ _ ?_
          clear hK K
          refine wpAny_ready (rs := [0, 3]) (by kernel_rfl) (by simp) ?_
          refine AllReady.cons rfl (fun K hK => ?o3) (AllReady.cons rfl (fun K hK => ?o4) AllReady.nil)
        case' o3 =>
          go_simp
          refine hK _ _ ?_
          clear hK K
          refine wpAny_ready (rs := [3]) (by kernel_rfl) (by simp) ?_
          refine AllReady.cons rfl (fun K hK => ?_) AllReady.nil
          go_simp
          refine hK _ _ ?_
          clear hK K
        case' o4 =>
          go_simp
          refine hK _ _ ?_
          clear hK K
          refine wpAny_ready (rs := [0]) (by kernel_rfl) (by simp) ?_
          refine AllReady.cons rfl (fun K hK => ?_) AllReady.nil
          go_simp
          refine hK _ _ ?_
          clear hK K
        all_goals
          refine wpAny_ready (rs := [4]) (by kernel_rfl) (by simp) ?_
          refine AllReady.cons rfl (fun K hK => ?_) AllReady.nil
          have hn0 := owns_keep hv1.2.1 ((New.refl w1).alloc (.cells #[.slice A (tabRow (mdC F m) s h x.1).length c] 25))
          have hlen : (pre.map fun x => tabRow (mdC F m) s h x.1).length = pre.length := List.length_map _
          have hsw : WW.heap.size ≤ w1.heap.size := Nat.le_trans hS n1.size
          have ou1 : w1.ownsRow WW.heap.size 3 1 (.slice A (tabRow (mdC F m) s h x.1).length c) (tabRow (mdC F m) s h x.1).length (tabRow (mdC F m) s h x.1) := owns_base ou hS
          refine step_append_lies _ rfl _ _ 23 rfl WW.heap.size 25 i0 (.slice none 0 0) 1 24 under_ints hi hz0 hz1 hz2 rfl (by decide) _ _ _ rfl hn0 ⟨w1.heap.size, 0, none⟩ 1 1 [.slice A (tabRow (mdC F m) s h x.1).length c] rfl rfl (cell_one_new _ _ _) (by simp [Value.oneCell']) (by decide) (by rw [hlen]; unfold maxLen; omega) (by rw [hlen]; omega) (by simp; omega) _ rfl ?_
          intro g cap w3 ho hg _ _
          rw [hlen] at ho
          obtain ⟨b1, b2, b3, b4, b5⟩ := hv1.more ou1 hsw (by omega) hlen ho hg
          have hc3 := b1.cell
          have hf3 := b1.frozen
          refine hK _ _ ?_
          clear hK K
          refine wpAny_ready (rs := [5]) (by kernel_rfl) (by simp) ?_
          refine AllReady.cons rfl (fun K hK => ?_) AllReady.nil
          go_simp
          refine hK _ _ ?_
          clear hK K
          refine wpAny_done (by kernel_rfl) ?_ _
          have kk : KeepsOthers W w1 := KeepsOthers.of_grownBy (grown_of n1 none) (fun j o ej _ => by cases ej)
          refine ⟨(kk.trans b3).from _, ?_, ⟨.slice (some ⟨g, 0, none⟩) (pre.length + 1) cap, vs ++ [.slice A (tabRow (mdC F m) s h x.1).length c], ?_⟩, hB.trans (Below.trans (Below.mono n1 hB.size) b4), Nat.le_trans hsw b3.size⟩
          rotate_left
          · have e1 : (pre ++ [x]).map (fun x => tabRow (mdC F m) s h x.1) = (pre.map fun x => tabRow (mdC F m) s h x.1) ++ [tabRow (mdC F m) s h x.1] := by simp
            rw [e1]
            exact b2
          · have e1 : ∀ q, q < WW.heap.size → q ≠ w2.heap.size → (w3.setCell ⟨w2.heap.size, 0, none⟩ (.slice (some ⟨g, 0, none⟩) (pre.length + 1) cap)).heap[q]? = W.heap[q]? := fun q hq hne => (b5 q hq hne).trans (n1.block q (by omega))
            exact ⟨World.cell?_of_block (e1 (w2.heap.size + 1) (by omega) (by omega)), World.cell?_of_block (e1 (w2.heap.size + 1 + 1) (by omega) (by omega))⟩
  case done =>
    rintro D ys W hD hys ⟨⟨v, vs, hv⟩, hB, hS⟩ hK
    have hc := hv.1.cell
    gi_wp2
    refine ⟨by simp, .inl ⟨_, _, rfl, run_takeDeferred hK, ?_⟩⟩
    have hw2 : w.heap.size + 1 ≤ w2.heap.size := by have := N2.out.size; rw [hsz] at this; exact this
    have hb : w.heap.size ≤ WW.heap.size := by omega
    obtain ⟨_, ho, hl, hr⟩ := hv
    have e1 : (ys.map fun x => tabRow (mdC F m) s h x.1) = (List.range (s.length + 1)).map (tabRow (mdC F m) s h) := by rw [← hys, List.map_map]; rfl
    rw [e1] at ho hl hr
    refine ⟨_, results_tmp rfl _ _ _, v, rfl, ⟨vs, ownsRow_putObj (owns_base ho hb) _ hK rfl, hl, fun i v r h1 h2 => ownsRow_putObj (owns_base (hr i v r h1 h2) hb) _ hK rfl⟩, ?_⟩
    have hn : New w W := (HN0.out.trans N2.out).trans hB
    exact Below.trans hn (belowK_b hb W D _ _ hD hK rfl rfl)
end Go.Proofs.YthodoabppkeidaaGreatDoor
