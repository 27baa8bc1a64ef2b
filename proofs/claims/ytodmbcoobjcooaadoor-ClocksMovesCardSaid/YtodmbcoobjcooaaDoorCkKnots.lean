/-
  The knots of the program: what newKnots keeps in memory. No condition.
  The knots of the program: newKnots. Condition: the tracks and the ties lie in memory.
-/
import Derived.Test.YtodmbcoobjcooaaDoorCkRowOf
import Derived.Test.YtodmbcoobjcooaaDoorCkOne
import Derived.Test.YtodmbcoobjcooaaDoorCkSpanT
namespace Go.Proofs.YtodmbcoobjcooaaDoor
open Go Go.RowKit Go.Shelf
attribute [local go_sem] Oper.semAt_some
/-- The lines of some ties, each one once. -/
def namesL (L : List Ti) : List Rf := L.foldl (fun l t => addR (addR l t.a) t.b) []
theorem addR_len (l : List Rf) (r : Rf) : (addR l r).length ≤ l.length + 1 := by unfold addR; split <;> simp
theorem addR_mem (l : List Rf) (r q : Rf) : q ∈ addR l r ↔ q ∈ l ∨ q = r := by
  unfold addR
  split
  · rename_i h
    exact ⟨fun h2 => .inl h2, fun h2 => h2.elim id (fun e => e ▸ h)⟩
  · simp
theorem addR_nodup {l : List Rf} (h : l.Nodup) (r : Rf) : (addR l r).Nodup := by
  unfold addR
  split
  · exact h
  · rename_i hr
    rw [List.nodup_append]
    exact ⟨h, by simp, fun a ha b hb => by simp at hb; subst hb; exact fun e => hr (e ▸ ha)⟩
theorem namesL_take {L : List Ti} {k : Nat} (h : k < L.length) : namesL (L.take (k + 1)) = addR (addR (namesL (L.take k)) (L[k]?.getD default).a) (L[k]?.getD default).b := by
  unfold namesL
  rw [take_at h, List.foldl_append]
  rfl
theorem namesL_len (L : List Ti) : ∀ k, k ≤ L.length → (namesL (L.take k)).length ≤ 2 * k
  | 0, _ => by simp [namesL]
  | k + 1, h => by
    rw [namesL_take (by omega)]
    have h1 := namesL_len L k (by omega)
    have h2 := addR_len (addR (namesL (L.take k)) (L[k]?.getD default).a) (L[k]?.getD default).b
    have h3 := addR_len (namesL (L.take k)) (L[k]?.getD default).a
    omega
theorem KnI.made (w : World) (win : Int) : KnI w ((w.alloc (.map #[] 0)).alloc (.cells #[.int .i64 win, .slice none 0 0, .map (some w.heap.size), .slice none 0 0] 160)) (w.heap.size + 1) w.heap.size win [] := by
  have n1 := (New.refl w).alloc (.map #[] 0)
  have n2 := (New.refl (w.alloc (.map #[] 0))).alloc (.cells #[.int .i64 win, .slice none 0 0, .map (some w.heap.size), .slice none 0 0] 160)
  have r := RowIs.new (w.alloc (.map #[] 0)) 160 [.int .i64 win, .slice none 0 0, .map (some w.heap.size), .slice none 0 0]
  rw [World.size_alloc] at r
  exact ⟨n1.trans n2, by omega, by omega, ⟨none, 0, r, World.ownsRow_nil _ _ _ _⟩, (IdxM.made w).keep n2⟩
theorem run_makeNone {P : Program} {t : TypeId} (w : World) : (Instr.makeMap t none).run P w = .ok (.map (some w.heap.size)) (w.alloc (.map #[] 0)) := by
  simp [Instr.makeMap]
theorem NetO.grown {W w' : World} {base g : Nat} {s : Sy} {E : List Eg} (h : NetO W base g s E) {b : Nat} {e : TypeId} {size n : Nat} {v : Value} {xs : List Value} (hv : W.ownsRow b e size v n xs) (hg : W.grownBy w' v.ownBlock) (h1 : e ≠ 154) (h2 : 3 ≠ e) (h3 : 156 ≠ e) : NetO w' base g s E := by
  obtain ⟨FA, fc, EA, ec, a1, a2, a3⟩ := h
  exact ⟨FA, fc, EA, ec, a1.grown hg (owns_ne hv a1 h1), owns_other a2 hv hg h2, owns_other a3 hv hg h3⟩
theorem WSum.grown {W w' : World} {g m : Nat} {d : Nat → Int} (h : WSum W g m d) {b : Nat} {e : TypeId} {size n : Nat} {v : Value} {xs : List Value} (hv : W.ownsRow b e size v n xs) (hg : W.grownBy w' v.ownBlock) (h1 : e ≠ 151) (h2 : e ≠ 3) : WSum w' g m d := by
  obtain ⟨x, y, sb, a1, a2⟩ := h
  exact ⟨x, y, sb, a1.grown hg (owns_ne hv a1 h1), a2.grown hg (owns_ne hv a2 h2)⟩
/-- The nets and the waves of the first tracks. -/
structure KtI (base : Nat) (wr : World) (ts : List Tk) (k : Nat) (V U : Value) : Prop where
  nets : ∃ outs, wr.ownsRow base 128 1 V k outs ∧ ∀ i, i < k → ∃ gi bi, outs[i]? = some (.pointer (some ⟨gi, 0, none⟩)) ∧ NetO wr bi gi (oneT (ts[i]?.getD default)) (egs (oneT (ts[i]?.getD default)))
  waves : ∃ outs, wr.ownsRow base 125 1 U k outs ∧ ∀ i, i < k → ∃ gw d, outs[i]? = some (.pointer (some ⟨gw, 0, none⟩)) ∧ WSum wr gw (nPl (oneT (ts[i]?.getD default))) d ∧ Dist (egs (oneT (ts[i]?.getD default))) (nPl (oneT (ts[i]?.getD default))) 0 22001 d
theorem KtI.keep {base : Nat} {w w' : World} {ts : List Tk} {k : Nat} {V U : Value} (h : KtI base w ts k V U) (n : New w w') : KtI base w' ts k V U := by
  obtain ⟨⟨o1, a1, a2⟩, o2, b1, b2⟩ := h
  exact ⟨⟨o1, owns_keep a1 n, fun i hi => by
    obtain ⟨gi, bi, e, h⟩ := a2 i hi
    exact ⟨gi, bi, e, h.keep n⟩⟩, o2, owns_keep b1 n, fun i hi => by
    obtain ⟨gw, d, e, h, h2⟩ := b2 i hi
    exact ⟨gw, d, e, h.keep n, h2⟩⟩
theorem info_pnet : (Tryd.prog.info? 128).map (fun i => (i.zero, i.size, i.bytes)) = some (some (.pointer none), 1, 8) := by kernel_rfl
theorem info_pwave : (Tryd.prog.info? 125).map (fun i => (i.zero, i.size, i.bytes)) = some (some (.pointer none), 1, 8) := by kernel_rfl
theorem under_pnets : Tryd.prog.underlying 162 = some (.slice 128) := by kernel_rfl
theorem under_pwaves : Tryd.prog.underlying 163 = some (.slice 125) := by kernel_rfl

theorem RowIs.apart {w : World} {g g' : Nat} {e e' : TypeId} {cs cs' : List Value} (h : RowIs w g e cs) (h' : RowIs w g' e' cs') (hne : e ≠ e') : g ≠ g' := by
  rintro rfl
  unfold RowIs at h h'
  rw [h] at h'
  simp at h'
  exact hne h'.2
theorem NetO.setK {W : World} {base gn g : Nat} {s : Sy} {E : List Eg} {cs : List Value} (h : NetO W base gn s E) (hk : RowIs W g 160 cs) (i : Nat) (v : Value) : NetO (W.setCell ⟨g, i, none⟩ v) base gn s E := by
  obtain ⟨FA, fc, EA, ec, a1, a2, a3⟩ := h
  exact ⟨FA, fc, EA, ec, a1.other (hk.apart a1 (by decide)) i v, owns_setCell a2 (owns_ne a2 hk (by decide)) i v, owns_setCell a3 (owns_ne a3 hk (by decide)) i v⟩
theorem WSum.setK {W : World} {gw g m : Nat} {d : Nat → Int} {cs : List Value} (h : WSum W gw m d) (hk : RowIs W g 160 cs) (i : Nat) (v : Value) : WSum (W.setCell ⟨g, i, none⟩ v) gw m d := by
  obtain ⟨x, y, sb, a1, a2⟩ := h
  exact ⟨x, y, sb, a1.other (hk.apart a1 (by decide)) i v, a2.other (hk.apart a2 (by decide)) i v⟩
theorem owns_at {w : World} {b : Nat} {e : TypeId} {v : Value} {n : Nat} {xs : List Value} (h : w.ownsRow b e 1 v n xs) (h0 : 0 < n) : ∃ gb cap, v = .slice (some ⟨gb, 0, none⟩) n cap ∧ b ≤ gb ∧ gb < w.heap.size ∧ ∀ i, i < n → w.cell? ⟨gb, i, none⟩ = xs[i]? ∧ w.frozen? ⟨gb, i, none⟩ = false := by
  rcases h.2 with ⟨_, h2⟩ | ⟨g, cap, cur, rfl, hb, hh, h1, h2, h3, h4⟩
  · omega
  · exact ⟨g, cap, rfl, hb, (Array.getElem?_eq_some_iff.1 hh).1, fun i hi => ⟨h.cellAt i (by omega), by simp [World.frozen?, hh]⟩⟩
/-- The nets and the waves of the tracks, with their sums. -/
structure KtD (base : Nat) (wr : World) (ts : List Tk) (k : Nat) (V U : Value) (ds : Nat → Nat → Int) : Prop where
  nets : ∃ outs, wr.ownsRow base 128 1 V k outs ∧ ∀ i, i < k → ∃ gi bi, outs[i]? = some (.pointer (some ⟨gi, 0, none⟩)) ∧ NetO wr bi gi (oneT (ts[i]?.getD default)) (egs (oneT (ts[i]?.getD default)))
  waves : ∃ outs, wr.ownsRow base 125 1 U k outs ∧ ∀ i, i < k → ∃ gw, outs[i]? = some (.pointer (some ⟨gw, 0, none⟩)) ∧ WSum wr gw (nPl (oneT (ts[i]?.getD default))) (ds i)
theorem KtI.fix {base : Nat} {w : World} {ts : List Tk} {k : Nat} {V U : Value} (h : KtI base w ts k V U) : ∃ ds, KtD base w ts k V U ds ∧ ∀ i, i < k → Dist (egs (oneT (ts[i]?.getD default))) (nPl (oneT (ts[i]?.getD default))) 0 22001 (ds i) := by
  obtain ⟨hn, o2, b1, b2⟩ := h
  have hc : ∀ i, ∃ d : Nat → Int, i < k → (∃ gw, o2[i]? = some (.pointer (some ⟨gw, 0, none⟩)) ∧ WSum w gw (nPl (oneT (ts[i]?.getD default))) d) ∧ Dist (egs (oneT (ts[i]?.getD default))) (nPl (oneT (ts[i]?.getD default))) 0 22001 d := fun i => by
    by_cases hi : i < k
    · obtain ⟨gw, d, e, h1, h2⟩ := b2 i hi
      exact ⟨d, fun _ => ⟨⟨gw, e, h1⟩, h2⟩⟩
    · exact ⟨fun _ => 0, fun h => absurd h hi⟩
  obtain ⟨ds, hds⟩ := Classical.axiomOfChoice hc
  exact ⟨ds, ⟨hn, o2, b1, fun i hi => (hds i hi).1⟩, fun i hi => (hds i hi).2⟩
theorem KtD.keep {base : Nat} {w w' : World} {ts : List Tk} {k : Nat} {V U : Value} {ds : Nat → Nat → Int} (h : KtD base w ts k V U ds) (n : New w w') : KtD base w' ts k V U ds := by
  obtain ⟨⟨o1, a1, a2⟩, o2, b1, b2⟩ := h
  exact ⟨⟨o1, owns_keep a1 n, fun i hi => by
    obtain ⟨gi, bi, e, h⟩ := a2 i hi
    exact ⟨gi, bi, e, h.keep n⟩⟩, o2, owns_keep b1 n, fun i hi => by
    obtain ⟨gw, e, h⟩ := b2 i hi
    exact ⟨gw, e, h.keep n⟩⟩
theorem KtD.grown {base : Nat} {w w' : World} {ts : List Tk} {k : Nat} {V U : Value} {ds : Nat → Nat → Int} (h : KtD base w ts k V U ds) {b : Nat} {e : TypeId} {size n : Nat} {v : Value} {xs : List Value} (hv : w.ownsRow b e size v n xs) (hg : w.grownBy w' v.ownBlock) (h1 : 128 ≠ e) (h2 : 125 ≠ e) (h3 : e ≠ 154) (h4 : e ≠ 151) (h5 : 3 ≠ e) (h6 : 156 ≠ e) : KtD base w' ts k V U ds := by
  obtain ⟨⟨o1, a1, a2⟩, o2, b1, b2⟩ := h
  exact ⟨⟨o1, owns_other a1 hv hg h1, fun i hi => by
    obtain ⟨gi, bi, e, h⟩ := a2 i hi
    exact ⟨gi, bi, e, h.grown hv hg h3 h5 h6⟩⟩, o2, owns_other b1 hv hg h2, fun i hi => by
    obtain ⟨gw, e, h⟩ := b2 i hi
    exact ⟨gw, e, h.grown hv hg h4 (Ne.symm h5)⟩⟩
theorem KtD.setK {base g : Nat} {w : World} {ts : List Tk} {k : Nat} {V U : Value} {ds : Nat → Nat → Int} {cs : List Value} (h : KtD base w ts k V U ds) (hk : RowIs w g 160 cs) (i : Nat) (v : Value) : KtD base (w.setCell ⟨g, i, none⟩ v) ts k V U ds := by
  obtain ⟨⟨o1, a1, a2⟩, o2, b1, b2⟩ := h
  exact ⟨⟨o1, owns_setCell a1 (owns_ne a1 hk (by decide)) i v, fun j hj => by
    obtain ⟨gi, bi, e, h⟩ := a2 j hj
    exact ⟨gi, bi, e, h.setK hk i v⟩⟩, o2, owns_setCell b1 (owns_ne b1 hk (by decide)) i v, fun j hj => by
    obtain ⟨gw, e, h⟩ := b2 j hj
    exact ⟨gw, e, h.setK hk i v⟩⟩
theorem KtD.sta {base c n : Nat} {w : World} {ts : List Tk} {V : Value} {A : Option Addr} {ds : Nat → Nat → Int} (h : KtD base w ts n V (.slice A n c) ds) : StA w A n (fun i => nPl (oneT (ts[i]?.getD default))) ds := fun h0 => by
  obtain ⟨-, o2, b1, b2⟩ := h
  obtain ⟨gb, cap, e, -, -, hc⟩ := owns_at b1 h0
  simp only [Value.slice.injEq] at e
  refine ⟨gb, 0, e.1, fun i hi => ?_⟩
  obtain ⟨gw, e2, h2⟩ := b2 i hi
  exact ⟨gw, by rw [Nat.zero_add, (hc i hi).1, e2], h2⟩
theorem KtD.net {base c n : Nat} {w : World} {ts : List Tk} {U : Value} {A : Option Addr} {ds : Nat → Nat → Int} (h : KtD base w ts n (.slice A n c) U ds) {i : Nat} (hi : i < n) : ∃ gb gi, A = some ⟨gb, 0, none⟩ ∧ w.cell? ⟨gb, i, none⟩ = some (.pointer (some ⟨gi, 0, none⟩)) ∧ NetAt w gi (oneT (ts[i]?.getD default)) (egs (oneT (ts[i]?.getD default))) := by
  obtain ⟨⟨o1, a1, a2⟩, -⟩ := h
  obtain ⟨gb, cap, e, -, -, hc⟩ := owns_at a1 (by omega)
  simp only [Value.slice.injEq] at e
  obtain ⟨gi, bi, e2, h2⟩ := a2 i hi
  exact ⟨gb, gi, e.1, by rw [(hc i hi).1, e2], h2.at⟩
/-- The knots, while the rows of the most are appended. -/
structure KmI (w0 W : World) (g b : Nat) (win : Int) (l : List Rf) (LA : Option Addr) (lc k : Nat) (f : Nat → Rf → Int) : Prop where
  new : New w0 W
  hg : w0.heap.size ≤ g
  lines : W.ownsRow w0.heap.size 53 2 (.slice LA l.length lc) l.length (l.flatMap rfCs)
  idx : IdxM W b l.length l
  most : ∃ (MA : Option Addr) (mc : Nat) (outs : List Value) (gs cs : Nat → Nat), RowIs W g 160 [.int .i64 win, .slice LA l.length lc, .map (some b), .slice MA k mc] ∧ W.ownsRow w0.heap.size 26 1 (.slice MA k mc) k outs ∧
    (∀ i, i < k → outs[i]? = some (.slice (some ⟨gs i, 0, none⟩) l.length (cs i)) ∧ W.ownsRow w0.heap.size 3 1 (.slice (some ⟨gs i, 0, none⟩) l.length (cs i)) l.length ((l.map (f i)).map (Value.int .i64))) ∧ ∀ i i', i < i' → i' < k → gs i < gs i'
theorem KmI.keep {w0 W W' : World} {g b : Nat} {win : Int} {l : List Rf} {LA : Option Addr} {lc k : Nat} {f : Nat → Rf → Int} (h : KmI w0 W g b win l LA lc k f) (n : New W W') : KmI w0 W' g b win l LA lc k f := by
  obtain ⟨MA, mc, outs, gs, cs, h1, h2, h3, h4⟩ := h.most
  exact ⟨h.new.trans n, h.hg, owns_keep h.lines n, h.idx.keep n, MA, mc, outs, gs, cs, h1.keep n, owns_keep h2 n, fun i hi => ⟨(h3 i hi).1, owns_keep (h3 i hi).2 n⟩, h4⟩
theorem KmI.most_at {w0 W : World} {g b : Nat} {win : Int} {l : List Rf} {LA : Option Addr} {lc : Nat} {f : Nat → Rf → Int} (h : KmI w0 W g b win l LA lc l.length f) (h0 : 0 < l.length) :
    ∃ (mb mc : Nat) (gs cs : Nat → Nat), MostA W w0.heap.size g mb l.length mc win gs cs (fun i j => f i (l[j]?.getD default)) ∧ W.cell? ⟨g, 2, none⟩ = some (.map (some b)) := by
  obtain ⟨MA, mc, outs, gs, cs, h1, h2, h3, h4⟩ := h.most
  obtain ⟨mb, cap, e, -, -, hc⟩ := owns_at h2 h0
  simp only [Value.slice.injEq] at e
  obtain ⟨rfl, -, rfl⟩ := e
  have hro : ∀ i j, i < l.length → j < l.length → W.cell? ⟨gs i, j, none⟩ = some (.int .i64 (f i (l[j]?.getD default))) ∧ W.frozen? ⟨gs i, j, none⟩ = false := fun i j hi hj => by
    obtain ⟨gb, cap, e, -, -, hc⟩ := owns_at (h3 i hi).2 h0
    simp only [Value.slice.injEq, Option.some.injEq, Addr.mk.injEq] at e
    obtain ⟨⟨e, -⟩, -⟩ := e
    rw [e]
    refine ⟨?_, (hc j hj).2⟩
    rw [(hc j hj).1, List.getElem?_map, List.getElem?_map, List.getElem?_eq_getElem hj]
    rfl
  refine ⟨mb, mc, gs, cs, ⟨h1.cell rfl, h1.cell rfl, fun i hi => by rw [(hc i hi).1, (h3 i hi).1], hro, fun i i' hi hi' e => ?_, fun i hi => ⟨fun e => ?_, fun e => ?_, ?_⟩⟩, h1.cell rfl⟩
  · rcases Nat.lt_trichotomy i i' with h5 | h5 | h5
    · have := h4 i i' h5 hi'; omega
    · exact h5
    · have := h4 i' i h5 hi; omega
  · have h5 := owns_apart h2 (h3 i hi).2 (by decide)
    rcases h5 with h5 | h5
    · simp [Value.ownBlock] at h5
    · exact h5 (by rw [e]; rfl)
  · exact owns_ne (h3 i hi).2 h1 (by decide) (by rw [e]; rfl)
  · obtain ⟨gb, cap, e, hb, -, hc⟩ := owns_at (h3 i hi).2 h0
    simp only [Value.slice.injEq, Option.some.injEq, Addr.mk.injEq] at e
    obtain ⟨⟨e, -⟩, -⟩ := e
    omega
/-- One row more. -/
theorem KmI.push {w0 W W' : World} {g b : Nat} {win : Int} {l : List Rf} {LA : Option Addr} {lc k : Nat} {f : Nat → Rf → Int} (h : New w0 W) (hg : w0.heap.size ≤ g) (hl : W.ownsRow w0.heap.size 53 2 (.slice LA l.length lc) l.length (l.flatMap rfCs)) (hx : IdxM W b l.length l)
    {MA : Option Addr} {mc g' : Nat} {mc' : Nat} {outs : List Value} {gs cs : Nat → Nat} (h1 : RowIs W g 160 [.int .i64 win, .slice LA l.length lc, .map (some b), .slice MA k mc]) (h2 : W.ownsRow w0.heap.size 26 1 (.slice MA k mc) k outs)
    (h3 : ∀ i, i < k → outs[i]? = some (.slice (some ⟨gs i, 0, none⟩) l.length (cs i)) ∧ W.ownsRow w0.heap.size 3 1 (.slice (some ⟨gs i, 0, none⟩) l.length (cs i)) l.length ((l.map (f i)).map (Value.int .i64))) (h4 : ∀ i i', i < i' → i' < k → gs i < gs i')
    {gr cr : Nat} (hr : W.ownsRow w0.heap.size 3 1 (.slice (some ⟨gr, 0, none⟩) l.length cr) l.length ((l.map (f k)).map (Value.int .i64))) (hgr : ∀ i, i < k → gs i < gr) (hgw : W.grownBy W' (Value.slice MA k mc).ownBlock) (ho : W'.ownsRow w0.heap.size 26 1 (.slice (some ⟨g', 0, none⟩) (k + 1) mc') (k + 1) (outs ++ [.slice (some ⟨gr, 0, none⟩) l.length cr])) (hbs : w0.heap.size ≤ W.heap.size) :
    KmI w0 (W'.setCell ⟨g, 3, none⟩ (.slice (some ⟨g', 0, none⟩) (k + 1) mc')) g b win l LA lc (k + 1) f := by
  obtain ⟨a1, a2, a3, a4, a5⟩ := push_all 3 h2 hgw ho h1 (by decide)
  have hlen : outs.length = k := by have := h2.1; omega
  obtain ⟨es, clock, hb⟩ := hx.at
  have e2 : W'.heap[b]? = W.heap[b]? := hgw.block b (Array.getElem?_eq_some_iff.1 hb).1 (fun e => by
    rcases h2.2 with ⟨e3, _⟩ | ⟨g'', cap', cur, e3, _, hh, _⟩
    · rw [e3] at e; simp [Value.ownBlock] at e
    · rw [e3] at e
      have e4 : b = g'' := by simpa [Value.ownBlock] using e
      rw [← e4, hb] at hh
      cases hh)
  have e5 : g ≠ b := fun e => by
    unfold RowIs at h1
    rw [e, hb] at h1
    cases h1
  refine ⟨(Below.trans h (grown_below h2 hgw hbs)).setCell hg _, hg, a5 _ _ _ _ _ _ hl (by decide) (by decide), hx.block ((Below.heap_setCell W' ⟨g, 3, none⟩ _ b (fun e => e5 e.symm)).trans e2), some ⟨g', 0, none⟩, mc', _, fun i => if i < k then gs i else gr, fun i => if i < k then cs i else cr, a2, a3, fun i hi => ?_, fun i i' h5 h6 => ?_⟩
  · dsimp only
    by_cases e : i < k
    · rw [if_pos e, if_pos e]
      refine ⟨by rw [List.getElem?_append_left (by omega)]; exact (h3 i e).1, a5 _ _ _ _ _ _ (h3 i e).2 (by decide) (by decide)⟩
    · obtain rfl : i = k := by omega
      rw [if_neg e, if_neg e]
      refine ⟨by rw [List.getElem?_append_right (by omega), hlen]; simp, a5 _ _ _ _ _ _ hr (by decide) (by decide)⟩
  · dsimp only
    by_cases e : i' < k
    · rw [if_pos (by omega), if_pos e]; exact h4 i i' h5 e
    · rw [if_pos (by omega), if_neg e]; exact hgr i (by omega)
theorem KmI.congr {w0 W : World} {g b : Nat} {win : Int} {l : List Rf} {LA : Option Addr} {lc k : Nat} {f f' : Nat → Rf → Int} (h : KmI w0 W g b win l LA lc k f) (he : ∀ i, i < k → f i = f' i) : KmI w0 W g b win l LA lc k f' := by
  obtain ⟨MA, mc, outs, gs, cs, h1, h2, h3, h4⟩ := h.most
  exact ⟨h.new, h.hg, h.lines, h.idx, MA, mc, outs, gs, cs, h1, h2, fun i hi => by rw [← he i hi]; exact h3 i hi, h4⟩
theorem owns_rfs {w : World} {b : Nat} {e : TypeId} {A : Option Addr} {n c : Nat} {l : List Rf} (h : w.ownsRow b e 2 (.slice A n c) n (l.flatMap rfCs)) : RfsA w A l := by
  have hl := h.1
  rw [fm_len rfCs 2 (fun _ => rfl)] at hl
  obtain rfl : n = l.length := by omega
  rcases h.2 with ⟨h1, h2⟩ | ⟨g, cap, cur, hv, hb, hh, h1, h2, h3, h4⟩
  · have := List.eq_nil_of_length_eq_zero h2
    subst this
    exact ⟨by simp, fun h => absurd h (by simp)⟩
  · simp only [Value.slice.injEq] at hv
    obtain ⟨rfl, -, rfl⟩ := hv
    unfold maxLen at h2
    refine ⟨by omega, fun _ => ⟨g, 0, rfl, (Array.getElem?_eq_some_iff.1 hh).1, fun i hi => ?_⟩⟩
    have key : ∀ r, r < 2 → w.cell? ⟨g, 0 + i * 2 + r, none⟩ = (rfCs l[i])[r]? := fun r hr => by
      rw [Nat.zero_add, h.cellAt (i * 2 + r) (by omega), fm_get rfCs 2 (fun _ => rfl) l i r hi hr]
    rw [List.getElem?_eq_getElem hi]
    exact ⟨key 0 (by omega), key 1 (by omega)⟩
/-- A line of some tracks. -/
def LineT (ts : List Tk) (q : Rf) : Prop := ∃ i j : Nat, q.log = i ∧ q.line = j ∧ i < ts.length ∧ j < (ts[i]?.getD default).times.length
theorem namesL_all {P : Rf → Prop} (L : List Ti) (h : ∀ t ∈ L, P t.a ∧ P t.b) : ∀ q ∈ namesL L, P q := by
  have key : ∀ (L : List Ti) (l : List Rf), (∀ t ∈ L, P t.a ∧ P t.b) → (∀ q ∈ l, P q) → ∀ q ∈ L.foldl (fun l t => addR (addR l t.a) t.b) l, P q := by
    intro L
    induction L with
    | nil => exact fun l _ h2 => h2
    | cons t L ih =>
      intro l h1 h2
      rw [List.foldl_cons]
      refine ih _ (fun u hu => h1 u (List.mem_cons_of_mem _ hu)) fun q hq => ?_
      have ht := h1 t List.mem_cons_self
      rcases (addR_mem _ _ _).1 hq with hq | rfl
      · rcases (addR_mem _ _ _).1 hq with hq | rfl
        · exact h2 q hq
        · exact ht.1
      · exact ht.2
  exact key L [] h (by simp)
theorem refOk_oneT {t : Tk} {j : Nat} (h : j < t.times.length) : RefOk (oneT t) ⟨0, j⟩ := by
  refine .inr ?_
  unfold lineB
  rw [Bool.and_eq_true]
  exact ⟨wiB_iff.2 (by simp [oneT]), wiB_iff.2 (by simp [oneT, tkAt]; omega)⟩
theorem nPl_one_le {ts : List Tk} (h : ∀ t ∈ ts, trackB t = true) (i : Nat) : nPl (oneT (ts[i]?.getD default)) ≤ 1000000 := by
  by_cases hi : i < ts.length
  · rw [getD_get hi]
    have := nPl_le (ok_oneT (h _ (List.getElem_mem hi)))
    omega
  · rw [List.getElem?_eq_none (by omega), Option.getD_none, oneT_nPl]
    simp [show (default : Tk).times = [] from rfl]
theorem dist_in {E : List Eg} {n src : Nat} {d : Nat → Int} (h : Dist E n src 22001 d) (hn : n ≤ 1000000) {v : Nat} (hv : v < n) : -10000000000000 ≤ d v ∧ d v ≤ 10000000000000 := by
  have h1 := h.lo v hv
  by_cases e : d v = NB
  · rw [e]; unfold NB; omega
  · have h2 := h.hi v hv e
    omega
/-- The numbers of the rows, out of the sums of the waves. -/
def mostF (l : List Rf) (dd ds : Nat → Nat → Int) : Nat → Rf → Int := fun i q => rowF (l[i]?.getD default) (dd i) ds q
/-- The waves from the lines, each in its track alone. -/
def DdD (ts : List Tk) (l : List Rf) (k : Nat) (dd : Nat → Nat → Int) : Prop := ∀ i, i < k → Dist (egs (oneT (ts[(l[i]?.getD default).log.toNat]?.getD default))) (nPl (oneT (ts[(l[i]?.getD default).log.toNat]?.getD default))) (1 + (l[i]?.getD default).line.toNat) 22001 (dd i)
theorem KnI.start {w0 W : World} {g b : Nat} {win : Int} {l : List Rf} {LA : Option Addr} {lc : Nat} (h : KnI w0 W g b win l) (h1 : RowIs W g 160 [.int .i64 win, .slice LA l.length lc, .map (some b), .slice none 0 0]) (h2 : W.ownsRow w0.heap.size 53 2 (.slice LA l.length lc) l.length (l.flatMap rfCs)) (f : Nat → Rf → Int) : KmI w0 W g b win l LA lc 0 f :=
  ⟨h.new, h.hg, h2, h.idx, none, 0, [], fun _ => 0, fun _ => 0, h1, World.ownsRow_nil _ _ _ _, fun i h => absurd h (Nat.not_lt_zero i), fun _ j _ h => absurd h (Nat.not_lt_zero j)⟩
end Go.Proofs.YtodmbcoobjcooaaDoor

namespace Go.Proofs.YtodmbcoobjcooaaDoor
open Go Go.RowKit Go.Shelf
attribute [local go_sem] Oper.semAt_some
theorem info_sint : (Tryd.prog.info? 26).map (fun i => (i.zero, i.size, i.bytes)) = some (some (.slice none 0 0), 1, 24) := by kernel_rfl
theorem under_ssint : Tryd.prog.underlying 47 = some (.slice 26) := by kernel_rfl
set_option maxRecDepth 100000 in
set_option maxHeartbeats 8000000 in
theorem ck_newKnots (w : World) (A D : Option Addr) (c d n : Nat) (win : Int) (L : List Ti) (hT : TisA w D L) (hm : L.length ≤ 1000) (hs : ∀ t ∈ L, Sml t.a ∧ Sml t.b) (ts : List Tk) (hts : ts.length = n) (hn0 : n ≤ 1000000) (hTk : TksA w A ts) (htb : ∀ t ∈ ts, trackB t = true) (hbeg : BegA w) (hln : ∀ t ∈ L, LineT ts t.a ∧ LineT ts t.b) :
    Calls Tryd.prog 99 #[.slice A n c, .int .i64 win, .slice D L.length d] w fun e w' => ∃ LA lc dd ds, e = .returned (.pointer (some ⟨w.heap.size + 1, 0, none⟩)) ∧ KmI w w' (w.heap.size + 1) w.heap.size win (namesL L) LA lc (namesL L).length (mostF (namesL L) dd ds) ∧ DdD ts (namesL L) (namesL L).length dd ∧ ∀ i, i < n → Dist (egs (oneT (ts[i]?.getD default))) (nPl (oneT (ts[i]?.getD default))) 0 22001 (ds i) := by
  have HT := Lib.hid hT
  have HSM := Lib.hid hs
  have HK0 := Lib.hid (KnI.made w win)
  have HTK0 := Lib.hid hTk
  have HTB := Lib.hid htb
  have HBG := Lib.hid hbeg
  have HTS := Lib.hid hts
  have HLN := Lib.hid hln
  clear hT hs hTk htb hbeg hln
  have hmap : ∀ w : World, (Instr.makeMap 158 none).run Tryd.prog w = .ok (.map (some w.heap.size)) (w.alloc (.map #[] 0)) := fun w => run_makeNone w
  go_enter Tryd.func99, Tryd.ntmps99
  go_wp2_with fail
  go_loopw [27] (fun i wr => ∃ k : Nat, k ≤ L.length ∧ i = .int .i64 k ∧ KnI w wr (w.heap.size + 1) w.heap.size win (namesL (L.take k))) (fun i _ => L.length - (intOf i).toNat)
  case atStart => exact ⟨0, Nat.zero_le _, rfl, HK0.out⟩
  case round =>
    obtain ⟨k, hk, rfl, hkn⟩ := hrel
    clear HK0
    by_cases hlt : k < L.length
    · obtain ⟨b, off, rfl, -, hc⟩ := (HT.out.keep hkn.new).2 (by omega)
      have hcc := hc k hlt
      have hmem : L[k]?.getD default ∈ L := by rw [getD_get hlt]; exact List.getElem_mem _
      have hsm := HSM.out _ hmem
      have hln := namesL_len L k hk
      have HTK := Lib.hid (namesL_take hlt)
      have HKN := Lib.hid hkn
      clear hc hkn
      generalize L[k]?.getD default = t at *
      obtain ⟨⟨al, an⟩, ⟨bl, bn⟩⟩ := t
      obtain ⟨c0, c1, c2, c3⟩ := hcc
      dsimp only at c0 c1 c2 c3 hsm
      have ik : (k : Int) < (L.length : Int) := by omega
      have n1 := (New.refl wr).alloc (.cells #[.int .i64 al, .int .i64 an, .int .i64 bl, .int .i64 bn] 79)
      have r1 := RowIs.new wr 79 [.int .i64 al, .int .i64 an, .int .i64 bl, .int .i64 bn]
      have HR1 := Lib.hid r1
      have HK1 := Lib.hid (HKN.out.keep n1)
      clear n1 r1
      have hbne : wr.heap.size ≠ w.heap.size + 1 := by
        obtain ⟨_, _, h1, _⟩ := HKN.out.lines
        have := h1.lt
        omega
      have HKA := Lib.hid (ck_name w _ _ _ win _ HK1.out ⟨al, an⟩ hsm.1 (by omega))
      have hl1 := addR_len (namesL (L.take k)) ⟨al, an⟩
      have hl2 : (addR (namesL (L.take k)) ⟨al, an⟩).length ≤ 10000 := by omega
      have HKB : Hid (∀ w2, KnI w w2 (w.heap.size + 1) w.heap.size win (addR (namesL (L.take k)) ⟨al, an⟩) → _) := Lib.hid fun w2 kn => ck_name w w2 (w.heap.size + 1) w.heap.size win _ kn ⟨bl, bn⟩ hsm.2 hl2
      go_wp2_with fail
      refine HKA.out.mono ?_
      rintro e w2 ⟨rfl, kn2, kk2⟩
      have r2 := kk2 _ _ _ HR1.out hbne (by decide)
      have z2 := r2.cell (i := 2) rfl
      have z3 := r2.cell (i := 3) rfl
      go_wp2_with fail
      refine (HKB.out _ kn2).mono ?_
      rintro e w3 ⟨rfl, kn3, -⟩
      have HK3 := Lib.hid kn3
      clear kn2 kk2 r2 z2 z3 kn3 HKA HKB
      go_wp2_with fail
      go_roundw
      case rel => exact ⟨k + 1, by omega, rfl, by rw [HTK.out]; exact HK3.out⟩
      case measure => simp [intOf]; omega
    · obtain rfl : k = L.length := by omega
      rw [List.take_length] at hkn
      have HKN := Lib.hid hkn
      clear hkn
      go_wp2_with fail
      obtain ⟨wq, rfl⟩ : ∃ wq, wq = wr := ⟨_, rfl⟩
      go_loopw [10, 11, 42] (fun V U i wr2 => ∃ k : Nat, k ≤ n ∧ i = .int .i64 k ∧ New wq wr2 ∧ KtI wq.heap.size wr2 ts k V U) (fun _ _ i _ => n - (intOf i).toNat)
      case atStart => exact ⟨0, Nat.zero_le _, rfl, New.refl _, ⟨⟨[], World.ownsRow_nil _ _ _ _, fun i h => absurd h (Nat.not_lt_zero i)⟩, [], World.ownsRow_nil _ _ _ _, fun i h => absurd h (Nat.not_lt_zero i)⟩⟩
      case round =>
        obtain ⟨k2, hk2, rfl, hn2, ht2⟩ := hrel
        by_cases hlt2 : k2 < n
        · obtain ⟨⟨o1, a1, a2⟩, o2, b1, b2⟩ := ht2
          obtain ⟨VA, vc, rfl⟩ := owns_form a1
          obtain ⟨UA, uc, rfl⟩ := owns_form b1
          have HW2 := Lib.hid (HKN.out.new.trans hn2)
          obtain ⟨tb, to, rfl, -, hc⟩ := (HTK0.out.keep HW2.out).2 (by omega)
          obtain ⟨JA, jc, TA, tc, z0, z1, z2, z3, hJ, hT2⟩ := hc k2 (by omega)
          have hmt : ts[k2]?.getD default ∈ ts := by rw [getD_get (by omega)]; exact List.getElem_mem _
          have htr := HTB.out _ hmt
          have ik2 : (k2 : Int) < (n : Int) := by omega
          have HTN : Hid (n ≤ 1000000) := Lib.hid hn0
          have HA1 := Lib.hid a1
          have HA2 := Lib.hid a2
          have HB1 := Lib.hid b1
          have HB2 := Lib.hid b2
          have HN2 := Lib.hid hn2
          clear hc a1 a2 b1 b2 hn2
          generalize htt : ts[k2]?.getD default = t at *
          have HTT := Lib.hid htt
          clear htt
          have n1 := (New.refl wr).alloc (.cells #[.int .i64 t.slip, .int .i64 t.drift, .slice JA t.jumps.length jc, .slice TA t.times.length tc] 30)
          have n2 := n1.alloc (.cells #[.int .i64 t.slip, .int .i64 t.drift, .slice JA t.jumps.length jc, .slice TA t.times.length tc] 30)
          have r2 := RowIs.new (wr.alloc (.cells #[.int .i64 t.slip, .int .i64 t.drift, .slice JA t.jumps.length jc, .slice TA t.times.length tc] 30)) 30 [.int .i64 t.slip, .int .i64 t.drift, .slice JA t.jumps.length jc, .slice TA t.times.length tc]
          rw [World.size_alloc] at r2
          have hSM : SysM ((wr.alloc (.cells #[.int .i64 t.slip, .int .i64 t.drift, .slice JA t.jumps.length jc, .slice TA t.times.length tc] 30)).alloc (.cells #[.int .i64 t.slip, .int .i64 t.drift, .slice JA t.jumps.length jc, .slice TA t.times.length tc] 30)) (some ⟨wr.heap.size + 1, 0, none⟩) none (oneT t) := by
            refine ⟨⟨by simp [oneT], fun _ => ⟨_, 0, rfl, r2.lt, fun i hi => ?_⟩⟩, ⟨by simp [oneT], fun h0 => absurd h0 (by simp [oneT])⟩⟩
            have hi0 : i = 0 := by simp [oneT] at hi; omega
            subst hi0
            exact ⟨JA, jc, TA, tc, r2.cell rfl, r2.cell rfl, r2.cell rfl, r2.cell rfl, hJ.keep n2, hT2.keep n2⟩
          have HNN := Lib.hid (ck_newNetO (oneT t) (ok_oneT htr) (some ⟨wr.heap.size + 1, 0, none⟩) none 1 0 _ hSM ⟨(HW2.out.trans n2).cellOf HBG.out.1, (HW2.out.trans n2).cellOf HBG.out.2⟩)
          have HN2' := Lib.hid n2
          clear n1 n2 r2 hSM hJ hT2
          go_wp2_with fail
          refine HNN.out.mono ?_
          rintro e w5 ⟨gn, rfl, hno, hgs, m5⟩
          have HNO := Lib.hid hno
          have y0 := (HW2.out.trans (HN2'.out.trans m5)).cellOf HBG.out.1
          have y1 := (HW2.out.trans (HN2'.out.trans m5)).cellOf HBG.out.2
          have HSP := Lib.hid (ck_spread (oneT t) (ok_oneT htr) gn (egs (oneT t)) w5 hno.at (egs_ok (ok_oneT htr)) (closes_oneT htr) (by have := bnds_len (ok_oneT htr); unfold egs; rw [List.length_map]; exact this) beg (.inl rfl))
          have HM5 := Lib.hid (HN2'.out.trans m5)
          clear hno hgs m5 HNN
          go_wp2_with fail
          refine HSP.out.mono ?_
          rintro e w6 ⟨gw, sb, bb, EA6, ec6, d6, b6, rfl, hwv, hdd⟩
          have HWV := Lib.hid hwv
          have HDD := Lib.hid hdd
          clear hwv hdd y0 y1 HSP
          have HM6 := Lib.hid (HM5.out.trans HWV.out.new)
          obtain ⟨i0, hi0, hz0, hz1, hz2⟩ := info_parts info_pnet
          obtain ⟨i1, hi1, hy0, hy1, hy2⟩ := info_parts info_pwave
          have HI := Lib.hid (And.intro (And.intro hi0 (And.intro hz0 (And.intro hz1 hz2))) (And.intro hi1 (And.intro hy0 (And.intro hy1 hy2))))
          clear hi0 hz0 hz1 hz2 hi1 hy0 hy1 hy2
          have hn3 : n ≤ 1000000 := by have := HTN.out; omega
          go_wp2_with (at_builtin; go_loud (refine wpList_append_lies _ rfl (.tmp 56) (.tmp 58) 162 rfl wq.heap.size 128 i0 (.pointer none) 1 8 under_pnets HI.out.1.1 HI.out.1.2.1 HI.out.1.2.2.1 HI.out.1.2.2.2 rfl (by decide) (.slice VA k2 vc) k2 o1 rfl (owns_keep HA1.out (HM6.out.alloc _)) ⟨w6.heap.size, 0, none⟩ 1 1 [.pointer (some ⟨gn, 0, none⟩)] rfl rfl ?c1 ?c2 (by decide) ?c3 ?c4 ?c5 _ rfl ?_))
          case c1 => exact World.news_of_block (heap_alloc_new _ _)
          case c2 => simp [Value.oneCell']
          case c3 => unfold maxLen; omega
          case c4 => omega
          case c5 => have := HN2.out.size; have := HM6.out.size; simp; omega
          intro g7 cap7 w7 ho7 hg7 _ _
          have ka := HM6.out.alloc (.cells #[.pointer (some ⟨gn, 0, none⟩)] 128)
          have kb := (New.refl w6).alloc (.cells #[.pointer (some ⟨gn, 0, none⟩)] 128)
          have hv7 := owns_keep HA1.out ka
          have n7 : New wq w7 := Below.trans (HN2.out.trans ka) (grown_below hv7 hg7 (HN2.out.trans ka).size)
          have hW7 : Hid (wr.heap.size ≤ w7.heap.size) := Lib.hid (Nat.le_trans ka.size hg7.size)
          have HO7 := Lib.hid ho7
          have HN7 := Lib.hid n7
          have HNO7 : Hid (NetO w7 _ gn (oneT t) (egs (oneT t))) := Lib.hid ((HNO.out.keep (HWV.out.new.trans kb)).grown hv7 hg7 (by decide) (by decide) (by decide))
          have HNA7 : Hid (∀ i, i < k2 → ∃ gi bi, o1[i]? = some (.pointer (some ⟨gi, 0, none⟩)) ∧ NetO w7 bi gi (oneT (ts[i]?.getD default)) (egs (oneT (ts[i]?.getD default)))) := Lib.hid fun i hi => by
            obtain ⟨gi, bi, e, hh⟩ := HA2.out i hi
            exact ⟨gi, bi, e, (hh.keep ka).grown hv7 hg7 (by decide) (by decide) (by decide)⟩
          have HB7 : Hid (w7.ownsRow wq.heap.size 125 1 (.slice UA k2 uc) k2 o2) := Lib.hid (owns_other (owns_keep HB1.out ka) hv7 hg7 (by decide))
          have HBA7 : Hid (∀ i, i < k2 → ∃ gw d, o2[i]? = some (.pointer (some ⟨gw, 0, none⟩)) ∧ WSum w7 gw (nPl (oneT (ts[i]?.getD default))) d ∧ Dist (egs (oneT (ts[i]?.getD default))) (nPl (oneT (ts[i]?.getD default))) 0 22001 d) := Lib.hid fun i hi => by
            obtain ⟨gi, di, e, hh, h2⟩ := HB2.out i hi
            exact ⟨gi, di, e, (hh.keep ka).grown hv7 hg7 (by decide) (by decide), h2⟩
          have HWS7 : Hid (WSum w7 gw (nPl (oneT t)) d6) := Lib.hid ((HWV.out.wsum.keep kb).grown hv7 hg7 (by decide) (by decide))
          clear ka kb hv7 n7 ho7 hg7
          go_wp2_with (at_builtin; go_loud (refine wpList_append_lies _ rfl (.tmp 60) (.tmp 62) 163 rfl wq.heap.size 125 i1 (.pointer none) 1 8 under_pwaves HI.out.2.1 HI.out.2.2.1 HI.out.2.2.2.1 HI.out.2.2.2.2 rfl (by decide) (.slice UA k2 uc) k2 o2 rfl (owns_keep HB7.out ((New.refl w7).alloc _)) ⟨w7.heap.size, 0, none⟩ 1 1 [.pointer (some ⟨gw, 0, none⟩)] rfl rfl ?c1 ?c2 (by decide) ?c3 ?c4 ?c5 _ rfl ?_))
          case c1 => exact World.news_of_block (heap_alloc_new _ _)
          case c2 => simp [Value.oneCell']
          case c3 => unfold maxLen; omega
          case c4 => omega
          case c5 => have := HN7.out.size; simp; omega
          intro g8 cap8 w8 ho8 hg8 _ _
          have ka := (New.refl w7).alloc (.cells #[.pointer (some ⟨gw, 0, none⟩)] 125)
          have hv8 := owns_keep HB7.out ka
          have n8 : New wq w8 := Below.trans (HN7.out.trans ka) (grown_below hv8 hg8 (HN7.out.trans ka).size)
          have HN8 := Lib.hid n8
          have hl1 : o1.length = k2 := by have := HA1.out.1; omega
          have hl2 : o2.length = k2 := by have := HB1.out.1; omega
          have HF : Hid (KtI wq.heap.size w8 ts (k2 + 1) (.slice (some ⟨g7, 0, none⟩) (k2 + 1) cap7) (.slice (some ⟨g8, 0, none⟩) (k2 + 1) cap8)) := Lib.hid ⟨⟨o1 ++ [.pointer (some ⟨gn, 0, none⟩)], owns_other (owns_keep HO7.out ka) hv8 hg8 (by decide), fun i hi => by
            by_cases e : i < k2
            · obtain ⟨gi, bi, e1, hh⟩ := HNA7.out i e
              exact ⟨gi, bi, by rw [List.getElem?_append_left (by omega)]; exact e1, (hh.keep ka).grown hv8 hg8 (by decide) (by decide) (by decide)⟩
            · obtain rfl : i = k2 := by omega
              rw [HTT.out]
              exact ⟨gn, _, by rw [List.getElem?_append_right (by omega), hl1]; simp, (HNO7.out.keep ka).grown hv8 hg8 (by decide) (by decide) (by decide)⟩⟩,
            o2 ++ [.pointer (some ⟨gw, 0, none⟩)], ho8, fun i hi => by
            by_cases e : i < k2
            · obtain ⟨gi, di, e1, hh, h2⟩ := HBA7.out i e
              exact ⟨gi, di, by rw [List.getElem?_append_left (by omega)]; exact e1, (hh.keep ka).grown hv8 hg8 (by decide) (by decide), h2⟩
            · obtain rfl : i = k2 := by omega
              rw [HTT.out]
              exact ⟨gw, d6, by rw [List.getElem?_append_right (by omega), hl2]; simp, (HWS7.out.keep ka).grown hv8 hg8 (by decide) (by decide), HDD.out⟩⟩
          clear ka hv8 n8 ho8 hg8 hl1 hl2
          go_wp2_with fail
          go_roundw
          case rel => exact ⟨k2 + 1, by omega, rfl, HN8.out, HF.out⟩
          case measure => simp [intOf]; omega
        · obtain rfl : k2 = n := by omega
          obtain ⟨⟨o1, a1, -⟩, o2, b1, -⟩ := id ht2
          obtain ⟨VA, vc, rfl⟩ := owns_form a1
          obtain ⟨UA, uc, rfl⟩ := owns_form b1
          clear a1 b1 o1 o2
          obtain ⟨ds, hkd, hdd⟩ := ht2.fix
          have HKD0 := Lib.hid hkd
          have HDS := Lib.hid hdd
          have hkn := HKN.out.keep hn2
          obtain ⟨LA, lc, hr1, ho1⟩ := id hkn.lines
          have HKM0 := Lib.hid (hkn.start hr1 ho1 (mostF (namesL L) (fun _ _ => 0) ds))
          have HALL := Lib.hid (namesL_all L HLN.out)
          have HW0 : Hid (New w wr) := Lib.hid (HKN.out.new.trans hn2)
          have hml := namesL_len L L.length (Nat.le_refl _)
          rw [List.take_length] at hml
          have HBS : Hid (wq.heap.size ≤ wr.heap.size) := Lib.hid hn2.size
          have HBW : Hid (w.heap.size ≤ wq.heap.size) := Lib.hid HKN.out.new.size
          have z1 := hr1.cell (i := 1) rfl
          clear ht2 hkd hdd hn2 hkn hr1 ho1 HKN HLN
          generalize hl : namesL L = l at *
          go_wp2_with fail
          obtain ⟨wt, rfl⟩ : ∃ wt, wt = wr := ⟨_, rfl⟩
          go_loopw [70] (fun i wr3 => ∃ k : Nat, k ≤ l.length ∧ i = .int .i64 k ∧ New w wr3 ∧ KtD wq.heap.size wr3 ts k2 (.slice VA k2 vc) (.slice UA k2 uc) ds ∧ ∃ dd, KmI w wr3 (w.heap.size + 1) w.heap.size win l LA lc k (mostF l dd ds) ∧ DdD ts l k dd) (fun i _ => l.length - (intOf i).toNat)
          case atStart => exact ⟨0, Nat.zero_le _, rfl, HW0.out, HKD0.out, fun _ _ => 0, HKM0.out, fun i h => absurd h (Nat.not_lt_zero i)⟩
          case round =>
            obtain ⟨k3, hk3, rfl, hn3, hkd, dd, hkm, hdd⟩ := hrel
            by_cases hlt3 : k3 < l.length
            · skip
              obtain ⟨MA, mc, outs, gs, cs, m1, m2, m3, m4⟩ := id hkm.most
              have hq : l[k3]?.getD default ∈ l := by rw [getD_get hlt3]; exact List.getElem_mem _
              obtain ⟨i0, j0, e1, e2, hi0, hj0⟩ := HALL.out _ hq
              obtain ⟨lb, lo, hLA, -, hc⟩ := (owns_rfs hkm.lines).2 (by omega)
              subst hLA
              have hcc := hc k3 hlt3
              have hmt : ts[i0]?.getD default ∈ ts := by rw [getD_get hi0]; exact List.getElem_mem _
              have htr := HTB.out _ hmt
              have hil : i0 < k2 := by rw [← HTS.out]; exact hi0
              obtain ⟨gb, gi, hVA, y0, hnet⟩ := hkd.net hil
              subst hVA
              have HQ : Hid (l[k3]?.getD default = ⟨(i0 : Int), (j0 : Int)⟩) := Lib.hid (by
                cases hh : l[k3]?.getD default with
                | mk a b => rw [hh] at e1 e2; dsimp only at e1 e2; rw [e1, e2])
              rw [HQ.out] at hcc
              clear hc hq e1 e2
              obtain ⟨c0, c1⟩ := hcc
              dsimp only at c0 c1
              have ik : (k3 : Int) < (l.length : Int) := by omega
              have n1 := (New.refl wr).alloc (.cells #[.int .i64 i0, .int .i64 j0] 53)
              have HR := Lib.hid (RowIs.new wr 53 [.int .i64 i0, .int .i64 j0])
              have HKM := Lib.hid (hkm.keep n1)
              have HKD := Lib.hid (hkd.keep n1)
              have HM1 := Lib.hid (m1.keep n1)
              have HM2 := Lib.hid (owns_keep m2 n1)
              have HM3 := Lib.hid m3
              have HM4 := Lib.hid m4
              have HN3 := Lib.hid (hn3.trans n1)
              have HDD := Lib.hid hdd
              have HNET := Lib.hid (hnet.keep n1)
              have HY0 := Lib.hid (n1.cellOf y0)
              have HM3L : Hid (∀ i, i < k3 → gs i < wr.heap.size) := Lib.hid fun i hi => by
                obtain ⟨gb', cap', e, -, hlt', -⟩ := owns_at (m3 i hi).2 (by omega)
                simp only [Value.slice.injEq, Option.some.injEq, Addr.mk.injEq] at e
                omega
              have HOK := Lib.hid (ok_oneT htr)
              have HCL := Lib.hid (closes_oneT htr)
              have HTT : Hid (ts[i0]?.getD default = ts[i0]?.getD default) := Lib.hid rfl
              have HJ0 := Lib.hid hj0
              have HSP : Hid (∀ w' g, NetAt w' g (oneT (ts[i0]?.getD default)) (egs (oneT (ts[i0]?.getD default))) → _) := Lib.hid fun w' g hno => ck_spread (oneT (ts[i0]?.getD default)) HOK.out g (egs (oneT (ts[i0]?.getD default))) w' hno (egs_ok HOK.out) HCL.out (by have := bnds_len HOK.out; unfold egs; rw [List.length_map]; exact this) ⟨0, j0⟩ (refOk_oneT HJ0.out)
              have HNW1 := Lib.hid n1
              clear hkm hkd m1 m2 m3 m4 n1 hn3 hdd hnet y0 hmt htr hj0
              go_wp2_with fail
              generalize hA : wr.heap.size = A at *
              generalize hW1 : wr.alloc (.cells #[.int .i64 i0, .int .i64 j0] 53) = W1 at *
              have hil2 : (i0 : Int) < (k2 : Int) := by omega
              have HSD : Hid (∀ w', New W1 w' → (w'.cell? ⟨A, 0, none⟩ = some (.int .i64 i0) ∧ w'.cell? ⟨A, 1, none⟩ = some (.int .i64 j0)) ∧ w'.cell? ⟨gb, i0, none⟩ = some (.pointer (some ⟨gi, 0, none⟩))) := Lib.hid fun w' hn => ⟨⟨(HR.out.keep hn).cell rfl, (HR.out.keep hn).cell rfl⟩, hn.cellOf HY0.out⟩
              refine region_plain (by kernel_rfl) (wpAny_of_held (S := fun w' => (w'.cell? ⟨A, 0, none⟩ = some (.int .i64 i0) ∧ w'.cell? ⟨A, 1, none⟩ = some (.int .i64 j0)) ∧ w'.cell? ⟨gb, i0, none⟩ = some (.pointer (some ⟨gi, 0, none⟩))) _ _ _ _ ?_)
              change wpAnyH _ _ _ _ _ _ _ _ W1.drew
              have hS := HSD.out W1.drew (New.refl W1).drew
              refine wpAnyH_take (i := 0) (v := ?_) rfl (by kernel_rfl) (by kernel_rfl) (by kernel_rfl) (fun _ _ _ h => h) (Or.inl ⟨by rfl, fun w' hS' => ?_⟩) hS ?_
              rotate_left
              · obtain ⟨⟨s0, s1⟩, s2⟩ := hS'
                go_simp
                try rfl
              try simp only [List.getElem_toArray, List.getElem_cons_zero, Act.put, List.setIfInBounds_toArray, List.set_cons_zero, List.set_cons_succ]
              refine wpAnyH_take (i := 1) (v := ?_) rfl (by kernel_rfl) (by kernel_rfl) (by kernel_rfl) (fun _ _ _ h => h) (Or.inl ⟨by rfl, fun w' hS' => ?_⟩) hS ?_
              rotate_left
              · obtain ⟨⟨s0, s1⟩, s2⟩ := hS'
                go_simp
                try rfl
              try simp only [List.getElem_toArray, List.getElem_cons_zero, List.getElem_cons_succ, Act.put, List.setIfInBounds_toArray, List.set_cons_zero, List.set_cons_succ]
              refine wpAnyH_take (i := 2) (v := ?_) rfl (by kernel_rfl) (by kernel_rfl) (by kernel_rfl) (fun _ _ _ h => h) (Or.inl ⟨by rfl, fun w' hS' => ?_⟩) hS ?_
              rotate_left
              · obtain ⟨⟨s0, s1⟩, s2⟩ := hS'
                go_simp
                try rfl
              try simp only [List.getElem_toArray, List.getElem_cons_zero, List.getElem_cons_succ, Act.put, List.setIfInBounds_toArray, List.set_cons_zero, List.set_cons_succ]
              refine wpAnyH_take (i := 3) (v := ?_) rfl (by kernel_rfl) (by kernel_rfl) (by kernel_rfl) (fun _ _ _ h => h) (Or.inl ⟨by rfl, fun w' hS' => ?_⟩) hS ?_
              rotate_left
              · obtain ⟨⟨s0, s1⟩, s2⟩ := hS'
                go_simp
                try rfl
              try simp only [List.getElem_toArray, List.getElem_cons_zero, List.getElem_cons_succ, Act.put, List.setIfInBounds_toArray, List.set_cons_zero, List.set_cons_succ]
              refine wpAnyH_take (i := 4) (v := ?_) rfl (by kernel_rfl) (by kernel_rfl) (by kernel_rfl) (fun _ _ _ h => h) (Or.inl ⟨by rfl, fun w' hS' => ?_⟩) hS ?_
              rotate_left
              · obtain ⟨⟨s0, s1⟩, s2⟩ := hS'
                go_simp
                try rfl
              try simp only [List.getElem_toArray, List.getElem_cons_zero, List.getElem_cons_succ, Act.put, List.setIfInBounds_toArray, List.set_cons_zero, List.set_cons_succ]
              refine wpAnyH_take (i := 5) (v := ?_) rfl (by kernel_rfl) (by kernel_rfl) (by kernel_rfl) (fun _ _ _ h => h) (Or.inl ⟨by rfl, fun w' hS' => ?_⟩) hS ?_
              rotate_left
              · obtain ⟨⟨s0, s1⟩, s2⟩ := hS'
                go_simp
                try rfl
              try simp only [List.getElem_toArray, List.getElem_cons_zero, List.getElem_cons_succ, Act.put, List.setIfInBounds_toArray, List.set_cons_zero, List.set_cons_succ]
              refine wpAnyH_take (i := 6) (v := ?_) rfl (by kernel_rfl) (by kernel_rfl) (by kernel_rfl) (fun _ _ _ h => h) (Or.inl ⟨by rfl, fun w' hS' => ?_⟩) hS ?_
              rotate_left
              · obtain ⟨⟨s0, s1⟩, s2⟩ := hS'
                go_simp
                try rfl
              try simp only [List.getElem_toArray, List.getElem_cons_zero, List.getElem_cons_succ, Act.put, List.setIfInBounds_toArray, List.set_cons_zero, List.set_cons_succ]
              refine wpAnyH_take (i := 7) (v := ?_) rfl (by kernel_rfl) (by kernel_rfl) (by kernel_rfl) (fun _ _ _ h => h) (Or.inl ⟨by rfl, fun w' hS' => ?_⟩) hS ?_
              rotate_left
              · obtain ⟨⟨s0, s1⟩, s2⟩ := hS'
                go_simp
                try rfl
              try simp only [List.getElem_toArray, List.getElem_cons_zero, List.getElem_cons_succ, Act.put, List.setIfInBounds_toArray, List.set_cons_zero, List.set_cons_succ]
              clear hS
              refine wpAnyH_ready (rs := [8]) (by kernel_rfl) (by simp) ?_
              refine AllReadyH.cons rfl (fun K hK => ?_) AllReadyH.nil
              go_simp
              refine (HSP.out _ _ (HNET.out.keep (New.refl W1).drew)).mono ?_
              rintro e w5 ⟨gw, sb, bb, EA6, ec6, d6, b6, rfl, hwv, hd6⟩
              have n5 := ((New.refl W1).drew).trans hwv.new
              have HWV := Lib.hid hwv.wsum
              have HD6 := Lib.hid hd6
              refine hK.out _ _ (HSD.out w5 n5) (fun hS => ?_)
              clear hK K hwv hd6
              try simp only [List.getElem_toArray, List.getElem_cons_zero, List.getElem_cons_succ, Act.put, List.setIfInBounds_toArray, List.set_cons_zero, List.set_cons_succ]
              refine wpAnyH_take (i := 9) (v := ?_) rfl (by kernel_rfl) (by kernel_rfl) (by kernel_rfl) (fun _ _ _ h => h) (Or.inl ⟨by rfl, fun w' hS' => ?_⟩) hS ?_
              rotate_left
              · obtain ⟨⟨s0, s1⟩, s2⟩ := hS'
                go_simp
                try rfl
              try simp only [List.getElem_toArray, List.getElem_cons_zero, List.getElem_cons_succ, Act.put, List.setIfInBounds_toArray, List.set_cons_zero, List.set_cons_succ]
              refine wpAnyH_take (i := 10) (v := ?_) rfl (by kernel_rfl) (by kernel_rfl) (by kernel_rfl) (fun _ _ _ h => h) (Or.inl ⟨by rfl, fun w' hS' => ?_⟩) hS ?_
              rotate_left
              · obtain ⟨⟨s0, s1⟩, s2⟩ := hS'
                go_simp
                try rfl
              try simp only [List.getElem_toArray, List.getElem_cons_zero, List.getElem_cons_succ, Act.put, List.setIfInBounds_toArray, List.set_cons_zero, List.set_cons_succ]
              refine wpAnyH_take (i := 11) (v := ?_) rfl (by kernel_rfl) (by kernel_rfl) (by kernel_rfl) (fun _ _ _ h => h) (Or.inl ⟨by rfl, fun w' hS' => ?_⟩) hS ?_
              rotate_left
              · obtain ⟨⟨s0, s1⟩, s2⟩ := hS'
                go_simp
                try rfl
              try simp only [List.getElem_toArray, List.getElem_cons_zero, List.getElem_cons_succ, Act.put, List.setIfInBounds_toArray, List.set_cons_zero, List.set_cons_succ]
              refine wpAnyH_take (i := 12) (v := ?_) rfl (by kernel_rfl) (by kernel_rfl) (by kernel_rfl) (fun _ _ _ h => h) (Or.inl ⟨by rfl, fun w' hS' => ?_⟩) hS ?_
              rotate_left
              · obtain ⟨⟨s0, s1⟩, s2⟩ := hS'
                go_simp
                try rfl
              try simp only [List.getElem_toArray, List.getElem_cons_zero, List.getElem_cons_succ, Act.put, List.setIfInBounds_toArray, List.set_cons_zero, List.set_cons_succ]
              refine wpAnyH_take (i := 13) (v := ?_) rfl (by kernel_rfl) (by kernel_rfl) (by kernel_rfl) (fun _ _ _ h => h) (Or.inl ⟨by rfl, fun w' hS' => ?_⟩) hS ?_
              rotate_left
              · obtain ⟨⟨s0, s1⟩, s2⟩ := hS'
                go_simp
                try rfl
              try simp only [List.getElem_toArray, List.getElem_cons_zero, List.getElem_cons_succ, Act.put, List.setIfInBounds_toArray, List.set_cons_zero, List.set_cons_succ]
              refine wpAnyH_done (by kernel_rfl) ?_ _
              unfold NormQ
              dsimp only [Exit.then]
              clear hS HSD HSP HNET HY0
              have HR5 := Lib.hid (HR.out.keep n5)
              have HKM5 := Lib.hid (HKM.out.keep n5)
              have HKD5 := Lib.hid (HKD.out.keep n5)
              have HM15 := Lib.hid (HM1.out.keep n5)
              have HM25 := Lib.hid (owns_keep HM2.out n5)
              have HN5 := Lib.hid (HN3.out.trans n5)
              have HS5 : Hid (A + 1 ≤ w5.heap.size) := Lib.hid (by have := HR.out.lt; have := n5.size; omega)
              have HNW5 := Lib.hid (HNW1.out.trans n5)
              clear HR HKM HKD HM1 HM2 HN3 HNW1 n5 hW1
              have HRW : Hid (∀ w', New w5 w' → _) := Lib.hid fun w' hn => ck_row w' (w.heap.size + 1) gw l.length lc k2 uc (some ⟨lb, lo, none⟩) UA l (fun i => nPl (oneT (ts[i]?.getD default))) d6 ds i0 j0 ((HM15.out.keep hn).cell rfl) ((owns_rfs HKM5.out.lines).keep hn) (HWV.out.keep hn) ((HKD5.out.keep hn).sta) (fun q hq => by
                obtain ⟨i, j, e1, e2, h1, h2⟩ := HALL.out q hq
                exact ⟨i, j, e1, e2, by rw [← HTS.out]; exact h1, by rw [oneT_nPl]; omega⟩) rfl (by omega) (nPl_pos _) (fun v hv => dist_in HD6.out (nPl_one_le HTB.out _) hv) (fun i v hi hv => dist_in (HDS.out i hi) (nPl_one_le HTB.out _) hv) (nPl_one_le HTB.out)
              have HSD : Hid (∀ w', New w5 w' → w'.cell? ⟨w.heap.size + 1, 3, none⟩ = some (.slice MA k3 mc) ∧ w'.cell? ⟨A, 0, none⟩ = some (.int .i64 i0) ∧ w'.cell? ⟨A, 1, none⟩ = some (.int .i64 j0)) := Lib.hid fun w' hn => ⟨(HM15.out.keep hn).cell rfl, (HR5.out.keep hn).cell rfl, (HR5.out.keep hn).cell rfl⟩
              go_wp2_with fail
              refine region_plain (by kernel_rfl) (wpAny_lastL (S := fun w' => w'.cell? ⟨w.heap.size + 1, 3, none⟩ = some (.slice MA k3 mc) ∧ w'.cell? ⟨A, 0, none⟩ = some (.int .i64 i0) ∧ w'.cell? ⟨A, 1, none⟩ = some (.int .i64 j0)) rfl (by kernel_rfl) (by kernel_rfl) (by kernel_rfl) ?_)
              simp only [List.dropLast, List.length_cons, List.length_nil, Nat.reduceAdd]
              change wpAnyH _ _ _ _ _ _ _ _ w5.drew
              have hS := HSD.out w5.drew (New.refl w5).drew
              refine wpAnyH_take (i := 0) (v := ?_) rfl (by kernel_rfl) (by kernel_rfl) (by kernel_rfl) (fun _ _ _ h => h) (Or.inl ⟨by rfl, fun w' hS' => ?_⟩) hS ?_
              rotate_left
              · obtain ⟨s0, s1, s2⟩ := hS'
                go_simp
                try rfl
              try simp only [List.getElem_toArray, List.getElem_cons_zero, Act.put, List.setIfInBounds_toArray, List.set_cons_zero, List.set_cons_succ]
              refine wpAnyH_take (i := 1) (v := ?_) rfl (by kernel_rfl) (by kernel_rfl) (by kernel_rfl) (fun _ _ _ h => h) (Or.inl ⟨by rfl, fun w' hS' => ?_⟩) hS ?_
              rotate_left
              · obtain ⟨s0, s1, s2⟩ := hS'
                go_simp
                try rfl
              try simp only [List.getElem_toArray, List.getElem_cons_zero, List.getElem_cons_succ, Act.put, List.setIfInBounds_toArray, List.set_cons_zero, List.set_cons_succ]
              refine wpAnyH_take (i := 2) (v := ?_) rfl (by kernel_rfl) (by kernel_rfl) (by kernel_rfl) (fun _ _ _ h => h) (Or.inl ⟨by rfl, fun w' hS' => ?_⟩) hS ?_
              rotate_left
              · obtain ⟨s0, s1, s2⟩ := hS'
                go_simp
                try rfl
              try simp only [List.getElem_toArray, List.getElem_cons_zero, List.getElem_cons_succ, Act.put, List.setIfInBounds_toArray, List.set_cons_zero, List.set_cons_succ]
              refine wpAnyH_take (i := 3) (v := ?_) rfl (by kernel_rfl) (by kernel_rfl) (by kernel_rfl) (fun _ _ _ h => h) (Or.inl ⟨by rfl, fun w' hS' => ?_⟩) hS ?_
              rotate_left
              · obtain ⟨s0, s1, s2⟩ := hS'
                go_simp
                try rfl
              try simp only [List.getElem_toArray, List.getElem_cons_zero, List.getElem_cons_succ, Act.put, List.setIfInBounds_toArray, List.set_cons_zero, List.set_cons_succ]
              refine wpAnyH_take (i := 4) (v := ?_) rfl (by kernel_rfl) (by kernel_rfl) (by kernel_rfl) (fun _ _ _ h => h) (Or.inl ⟨by rfl, fun w' hS' => ?_⟩) hS ?_
              rotate_left
              · obtain ⟨s0, s1, s2⟩ := hS'
                go_simp
                try rfl
              try simp only [List.getElem_toArray, List.getElem_cons_zero, List.getElem_cons_succ, Act.put, List.setIfInBounds_toArray, List.set_cons_zero, List.set_cons_succ]
              refine wpAnyH_take (i := 5) (v := ?_) rfl (by kernel_rfl) (by kernel_rfl) (by kernel_rfl) (fun _ _ _ h => h) (Or.inl ⟨by rfl, fun w' hS' => ?_⟩) hS ?_
              rotate_left
              · obtain ⟨s0, s1, s2⟩ := hS'
                go_simp
                try rfl
              try simp only [List.getElem_toArray, List.getElem_cons_zero, List.getElem_cons_succ, Act.put, List.setIfInBounds_toArray, List.set_cons_zero, List.set_cons_succ]
              refine wpAnyH_take (i := 6) (v := ?_) rfl (by kernel_rfl) (by kernel_rfl) (by kernel_rfl) (fun _ _ _ h => h) (Or.inl ⟨by rfl, fun w' hS' => ?_⟩) hS ?_
              rotate_left
              · obtain ⟨s0, s1, s2⟩ := hS'
                go_simp
                try rfl
              try simp only [List.getElem_toArray, List.getElem_cons_zero, List.getElem_cons_succ, Act.put, List.setIfInBounds_toArray, List.set_cons_zero, List.set_cons_succ]
              refine wpAnyH_take (i := 7) (v := ?_) rfl (by kernel_rfl) (by kernel_rfl) (by kernel_rfl) (fun _ _ _ h => h) (Or.inl ⟨by rfl, fun w' hS' => ?_⟩) hS ?_
              rotate_left
              · obtain ⟨s0, s1, s2⟩ := hS'
                go_simp
                try rfl
              try simp only [List.getElem_toArray, List.getElem_cons_zero, List.getElem_cons_succ, Act.put, List.setIfInBounds_toArray, List.set_cons_zero, List.set_cons_succ]
              refine wpAnyH_take (i := 8) (v := ?_) rfl (by kernel_rfl) (by kernel_rfl) (by kernel_rfl) (fun _ _ _ h => h) (Or.inl ⟨by rfl, fun w' hS' => ?_⟩) hS ?_
              rotate_left
              · obtain ⟨s0, s1, s2⟩ := hS'
                go_simp
                try rfl
              try simp only [List.getElem_toArray, List.getElem_cons_zero, List.getElem_cons_succ, Act.put, List.setIfInBounds_toArray, List.set_cons_zero, List.set_cons_succ]
              clear hS
              refine wpAnyH_ready (rs := [9]) (by kernel_rfl) (by simp) ?_
              refine AllReadyH.cons rfl (fun K hK => ?_) AllReadyH.nil
              go_simp
              refine (HRW.out _ (New.refl w5).drew).mono ?_
              rintro e w6 ⟨V, rfl, m6, how⟩
              have n6 := ((New.refl w5).drew).trans m6
              obtain ⟨gr, cr, rfl, hgr, -, -⟩ := owns_at how (by omega)
              have hgr2 : w5.heap.size ≤ gr := hgr
              refine hK.out _ _ (HSD.out w6 n6) (fun hS => ?_)
              clear hK K hS
              try simp only [List.getElem_toArray, List.getElem_cons_zero, List.getElem_cons_succ, Act.put, List.setIfInBounds_toArray, List.set_cons_zero, List.set_cons_succ]
              have n7 := n6.alloc (.cells #[.slice (some ⟨gr, 0, none⟩) l.length cr] 26)
              have n67 := (New.refl w6).alloc (.cells #[.slice (some ⟨gr, 0, none⟩) l.length cr] 26)
              refine wpAnyH_ready (rs := [10]) (by kernel_rfl) (by simp) ?_
              refine AllReadyH.cons rfl (fun K hK => ?_) AllReadyH.nil
              go_simp
              refine hK.out _ _ (HSD.out _ n7) (fun hS => ?_)
              clear hK K hS
              try simp only [List.getElem_toArray, List.getElem_cons_zero, List.getElem_cons_succ, Act.put, List.setIfInBounds_toArray, List.set_cons_zero, List.set_cons_succ]
              obtain ⟨i1, hi1, hy0, hy1, hy2⟩ := info_parts info_sint
              have hq0 := owns_keep HM25.out n7
              have hm1 : k3 + 1 ≤ maxLen := by unfold maxLen; omega
              have hm2 : (k3 + 1) * 24 ≤ 140737488355328 := by omega
              have hbs : w.heap.size ≤ (w6.alloc (.cells #[.slice (some ⟨gr, 0, none⟩) l.length cr] 26)).heap.size := by have := n7.size; have := HN5.out.size; omega
              refine wpAnyH_ready (rs := [11]) (by kernel_rfl) (by simp) ?_
              refine AllReadyH.cons rfl (fun K hK => ?_) AllReadyH.nil
              refine step_append_lies _ rfl (.tmp 90) (.tmp 96) 47 rfl w.heap.size 26 i1 (.slice none 0 0) 1 24 under_ssint hi1 hy0 hy1 hy2 rfl (by decide) (.slice MA k3 mc) k3 _ rfl hq0 ⟨w6.heap.size, 0, none⟩ 1 1 [.slice (some ⟨gr, 0, none⟩) l.length cr] rfl rfl (World.news_of_block (cs := #[.slice (some ⟨gr, 0, none⟩) l.length cr]) (heap_alloc_new w6 _)) (by simp [Value.oneCell']) (by decide) hm1 hm2 hbs _ rfl ?_
              intro g8 cap8 w8 ho8 hg8 hat8 hlt8
              have hr7 := HR5.out.keep n7
              have h17 := HM15.out.keep n7
              have hc8 : w8.cell? ⟨w.heap.size + 1, 3, none⟩ = some (.slice MA k3 mc) := (h17.grown hg8 (owns_ne hq0 h17 (by decide))).cell rfl
              have hr8 := hr7.grown hg8 (owns_ne hq0 hr7 (by decide))
              refine hK.out _ _ ⟨hc8, hr8.cell rfl, hr8.cell rfl⟩ (fun hS => ?_)
              clear hK K
              try simp only [List.getElem_toArray, List.getElem_cons_zero, List.getElem_cons_succ, Act.put, List.setIfInBounds_toArray, List.set_cons_zero, List.set_cons_succ]
              refine wpAnyH_take (i := 12) (v := ?_) rfl (by kernel_rfl) (by kernel_rfl) (by kernel_rfl) (fun _ _ _ h => h) (Or.inl ⟨by rfl, fun w' hS' => ?_⟩) hS ?_
              rotate_left
              · obtain ⟨s0, s1, s2⟩ := hS'
                go_simp
                try rfl
              try simp only [List.getElem_toArray, List.getElem_cons_zero, List.getElem_cons_succ, Act.put, List.setIfInBounds_toArray, List.set_cons_zero, List.set_cons_succ]
              refine wpAnyH_take (i := 13) (v := ?_) rfl (by kernel_rfl) (by kernel_rfl) (by kernel_rfl) (fun _ _ _ h => h) (Or.inl ⟨by rfl, fun w' hS' => ?_⟩) hS ?_
              rotate_left
              · obtain ⟨s0, s1, s2⟩ := hS'
                go_simp
                try rfl
              try simp only [List.getElem_toArray, List.getElem_cons_zero, List.getElem_cons_succ, Act.put, List.setIfInBounds_toArray, List.set_cons_zero, List.set_cons_succ]
              refine wpAnyH_done (by kernel_rfl) ?_ _
              clear hS
              have h18 := h17.grown hg8 (owns_ne hq0 h17 (by decide))
              have x1 := h18.cell (i := 3) rfl
              have xf := h18.free 3
              have HKD8 := Lib.hid (((HKD5.out.keep n7).grown hq0 hg8 (by decide) (by decide) (by decide) (by decide) (by decide) (by decide)).setK h18 3 (.slice (some ⟨g8, 0, none⟩) (k3 + 1) cap8))
              have HKF : Hid (KmI w (w8.setCell ⟨w.heap.size + 1, 3, none⟩ (.slice (some ⟨g8, 0, none⟩) (k3 + 1) cap8)) (w.heap.size + 1) w.heap.size win l (some ⟨lb, lo, none⟩) lc (k3 + 1) (mostF l (fun i => if i = k3 then d6 else dd i) ds)) := Lib.hid (KmI.push (HN5.out.trans n7) (by omega) (owns_keep HKM5.out.lines n7) (HKM5.out.idx.keep n7) h17 hq0 (fun i hi => by
                refine ⟨(HM3.out i hi).1, ?_⟩
                have e : mostF l (fun i => if i = k3 then d6 else dd i) ds i = mostF l dd ds i := by
                  funext q
                  unfold mostF
                  dsimp only
                  rw [if_neg (by omega)]
                rw [e]
                exact owns_keep (HM3.out i hi).2 (HNW5.out.trans n7)) HM4.out (by
                have e : mostF l (fun i => if i = k3 then d6 else dd i) ds k3 = rowF ⟨(i0 : Int), (j0 : Int)⟩ d6 ds := by
                  funext q
                  unfold mostF
                  dsimp only
                  rw [if_pos rfl, HQ.out]
                rw [e]
                exact owns_base (owns_keep how n67) (by have := HN5.out.size; have h1 : w5.drew.heap.size = w5.heap.size := rfl; omega)) (fun i hi => by have := HM3L.out i hi; have := HS5.out; omega) hg8 ho8 hbs)
              have HDF : Hid (DdD ts l (k3 + 1) (fun i => if i = k3 then d6 else dd i)) := Lib.hid fun i hi => by
                by_cases e : i = k3
                · subst e
                  dsimp only
                  rw [if_pos rfl, HQ.out]
                  have h6 := HD6.out
                  rw [oneT_plc] at h6
                  exact h6
                · dsimp only
                  rw [if_neg e]
                  exact HDD.out i (by omega)
              clear h18 h17 hq0 hg8 ho8 how n6 n7 n67 hr7 hr8 hc8 hat8 hlt8
              unfold LastQ NormQ
              go_simp
              go_wp2_with fail
              go_roundw
              case rel => exact ⟨k3 + 1, by omega, rfl, HKF.out.new, HKD8.out, _, HKF.out, HDF.out⟩
              case measure => simp [intOf]; omega
            · obtain rfl : k3 = l.length := by omega
              go_wp2_with fail
              go_ret
              subst hl
              exact ⟨LA, lc, dd, ds, rfl, hkm, hdd, HDS.out⟩
end Go.Proofs.YtodmbcoobjcooaaDoor
