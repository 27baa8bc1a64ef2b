/-
  turned of the program: the net with all edges turned around. Condition: the net lies in memory.
-/
import Derived.Test.YtodmbcoobjcooaaDoorCkSpread
import Derived.Test.YtodmbcoobjcooaaDoorCkNewNet
namespace Go.Proofs.YtodmbcoobjcooaaDoor
open Go Go.RowKit Go.Shelf
attribute [local go_sem] Oper.semAt_some
def turnE (E : List Eg) : List Eg := E.map fun e => (e.2.1, e.1, e.2.2)
theorem turnE_len (E : List Eg) : (turnE E).length = E.length := by simp [turnE]
theorem turnE_ok {E : List Eg} {n : Nat} {M : Int} (h : EOk E n M) : EOk (turnE E) n M := by
  refine ⟨?_, ?_, ?_, ?_, ?_⟩ <;> (intro e he; obtain ⟨f, hf, rfl⟩ := List.mem_map.1 he)
  · exact h.snd f hf
  · exact h.fst f hf
  · exact Ne.symm (h.ne f hf)
  · exact h.lo f hf
  · exact h.hi f hf
theorem turnE_closes {E : List Eg} (h : Closes E) : Closes (turnE E) := by
  obtain ⟨p, hp⟩ := h
  refine ⟨fun v => -p v, fun e he => ?_⟩
  obtain ⟨f, hf, rfl⟩ := List.mem_map.1 he
  have := hp f hf
  dsimp only
  omega
theorem Wk.turn {E : List Eg} {u v : Nat} {s : Int} (h : Wk E u v s) : Wk (turnE E) v u s := by
  induction h with
  | nil => exact .nil _
  | @snoc v s e _ he hv ih =>
    have h1 : (e.2.1, e.1, e.2.2) ∈ turnE E := List.mem_map.2 ⟨e, he, rfl⟩
    have := (Wk.one h1).trans (hv ▸ ih)
    exact this.cast rfl rfl (by dsimp only; omega)
theorem made_zero3 (z : Array Value) (hz : z = #[.int .i64 0, .int .i64 0, .int .i64 0]) (n : Nat) : madeCells z (n * 3) = (fnRow (n * 3) fun _ => 0).toArray := by
  subst hz
  apply Array.ext
  · rw [size_madeCells]; simp [fnRow]
  · intro i h1 h2
    have h3 : i % 3 = 0 ∨ i % 3 = 1 ∨ i % 3 = 2 := by omega
    rcases h3 with h | h | h <;> simp [madeCells, fnRow, h]
theorem made_zero (n : Nat) : madeCells (Value.agg #[.int .i64 0, .int .i64 0, .int .i64 0]).cells (n * 3) = (fnRow (n * 3) fun _ => 0).toArray := made_zero3 _ (by kernel_rfl) n
/-- The first k edges lie in a row, turned around. -/
def TurnF (E : List Eg) (k : Nat) (f : Nat → Int) : Prop := ∀ i, i < k → f (i * 3) = (eAt E i).2.1 ∧ f (i * 3 + 1) = (eAt E i).1 ∧ f (i * 3 + 2) = (eAt E i).2.2
theorem TurnF.next {E : List Eg} {k : Nat} {f : Nat → Int} (h : TurnF E k f) : TurnF E (k + 1) (upd (upd (upd f (k * 3) (eAt E k).2.1) (k * 3 + 1) (eAt E k).1) (k * 3 + 2) (eAt E k).2.2) := fun i hi => by
  by_cases e : i = k
  · subst e
    refine ⟨?_, ?_, ?_⟩
    · rw [upd_other _ _ (by omega), upd_other _ _ (by omega), upd_same]
    · rw [upd_other _ _ (by omega), upd_same]
    · rw [upd_same]
  · obtain ⟨h1, h2, h3⟩ := h i (by omega)
    refine ⟨?_, ?_, ?_⟩ <;> (rw [upd_other _ _ (by omega), upd_other _ _ (by omega), upd_other _ _ (by omega)]; assumption)
theorem make_edges (n : Nat) (hn : n ≤ 1000000) (w : World) : (Instr.makeSlice 149 (.int .i64 n) (.int .i64 n)).run Tryd.prog w = .ok (.slice (some ⟨w.heap.size, 0, none⟩) n n) (w.alloc (.cells (fnRow (n * 3) fun _ => 0).toArray 156)) := by
  obtain ⟨i, h1, h2, h3, h4⟩ := info_parts info_edge
  rw [run_make w 149 156 i _ under_edges h1 h2 .i64 .i64 n n (by omega) (by omega) (by rw [h4]; omega) (by omega), h3]
  simp only [Int.toNat_natCast]
  rw [made_zero]
set_option maxRecDepth 100000 in
set_option maxHeartbeats 8000000 in
theorem ck_turned (s : Sy) (g : Nat) (E : List Eg) (w : World) (hN : NetAt w g s E) (hel : E.length ≤ 300000) :
    Calls Tryd.prog 108 #[.pointer (some ⟨g, 0, none⟩)] w fun e w' => ∃ g', e = .returned (.pointer (some ⟨g', 0, none⟩)) ∧ NetAt w' g' s (turnE E) ∧ New w w' := by
  obtain ⟨FA, fc, EA, ec, hg, hF, hEA⟩ := hN
  have hmk := make_edges E.length (by omega)
  have n1 := (New.refl w).alloc (.cells #[.slice FA (s.tracks.length + 1) fc, .int .i64 (nPl s), .slice EA E.length ec] 154)
  have HG := Lib.hid hg
  have g0 := hg.cell (i := 0) rfl
  have g1 := hg.cell (i := 1) rfl
  have g2 := hg.cell (i := 2) rfl
  have k2 := (hg.keep n1).cell (i := 2) rfl
  have hlt := hg.lt
  go_enter Tryd.func108, Tryd.ntmps108
  go_wp2_with fail
  have n2 := n1.trans ((New.refl (w.alloc (.cells #[.slice FA (s.tracks.length + 1) fc, .int .i64 (nPl s), .slice EA E.length ec] 154))).alloc (.cells (fnRow (E.length * 3) fun _ => 0).toArray 156))
  have m1 := (New.refl w).alloc (.cells #[.slice FA (s.tracks.length + 1) fc, .int .i64 (nPl s), .slice (some ⟨w.heap.size + 1, 0, none⟩) E.length E.length] 154)
  have m2 := (New.refl (w.alloc (.cells #[.slice FA (s.tracks.length + 1) fc, .int .i64 (nPl s), .slice (some ⟨w.heap.size + 1, 0, none⟩) E.length E.length] 154))).alloc (.cells (fnRow (E.length * 3) fun _ => 0).toArray 156)
  have q1 := (RowIs.new w 154 [.slice FA (s.tracks.length + 1) fc, .int .i64 (nPl s), .slice (some ⟨w.heap.size + 1, 0, none⟩) E.length E.length]).keep m2
  have q2 := RowIs.new (w.alloc (.cells #[.slice FA (s.tracks.length + 1) fc, .int .i64 (nPl s), .slice (some ⟨w.heap.size + 1, 0, none⟩) E.length E.length] 154)) 156 (fnRow (E.length * 3) fun _ => 0)
  simp only [World.size_alloc] at q2
  have HQ1 := Lib.hid q1
  have HQ2 := Lib.hid q2
  have HN := Lib.hid (m1.trans m2)
  have HF := Lib.hid hF
  have HEA := Lib.hid hEA
  clear n1 n2 m1 m2 q1 q2 hg hF hEA g0 g1 g2 k2
  go_loopw [21] (fun i wr => ∃ (k : Nat) (f : Nat → Int), k ≤ E.length ∧ i = .int .i64 k ∧ New w wr ∧ RowIs wr w.heap.size 154 [.slice FA (s.tracks.length + 1) fc, .int .i64 (nPl s), .slice (some ⟨w.heap.size + 1, 0, none⟩) E.length E.length] ∧ RowIs wr (w.heap.size + 1) 156 (fnRow (E.length * 3) f) ∧ TurnF E k f) (fun i _ => E.length - (intOf i).toNat)
  case atStart => exact ⟨0, _, Nat.zero_le _, rfl, HN.out, HQ1.out, HQ2.out, fun _ h => absurd h (Nat.not_lt_zero _)⟩
  case round =>
    obtain ⟨k, f, hk, rfl, hn, p1, p2, hf⟩ := hrel
    clear HN HQ1 HQ2
    by_cases hltk : k < E.length
    · obtain ⟨eb, eo, rfl, heb, hc⟩ := (HEA.out.keep hn).2 (by omega)
      obtain ⟨z0, z1, z2⟩ := hc k hltk
      have ee : E[k]?.getD default = eAt E k := rfl
      rw [ee] at z0 z1 z2
      have HTF := Lib.hid hf.next
      clear hc ee hf
      generalize eAt E k = e at *
      obtain ⟨u, v, c⟩ := e
      dsimp only at *
      have na := (New.refl wr).alloc (.cells #[.int .i64 u, .int .i64 v, .int .i64 c] 156)
      have ra := RowIs.new wr 156 [.int .i64 u, .int .i64 v, .int .i64 c]
      have r0 := ra.cell (i := 0) rfl
      have r1 := ra.cell (i := 1) rfl
      have r2 := ra.cell (i := 2) rfl
      have HP1 := Lib.hid (p1.keep na)
      have HP2 := Lib.hid (p2.keep na)
      have HN := Lib.hid (hn.trans na)
      have c2 := (p1.keep na).cell (i := 2) rfl
      have f0 := (p2.keep na).free (k * 3)
      have f1 := (p2.keep na).free (k * 3 + 1)
      have f2 := (p2.keep na).free (k * 3 + 2)
      have d0 := (p2.keep na).cell (fnRow_get (f := f) (i := k * 3) (by omega))
      have d1 := (p2.keep na).cell (fnRow_get (f := f) (i := k * 3 + 1) (by omega))
      have d2 := (p2.keep na).cell (fnRow_get (f := f) (i := k * 3 + 2) (by omega))
      have i1 : (k : Int) < (E.length : Int) := by omega
      have i2 : (0 : Int) ≤ (k : Int) := by omega
      clear na ra p1 p2 hn
      go_wp2_with fail
      refine ⟨⟨k + 1, _, by omega, by simp, ?_, ?_, ?_, HTF.out⟩, by simp [intOf]; omega⟩
      · exact ((HN.out.setCell (by show w.heap.size ≤ w.heap.size + 1; omega) _).setCell (by show w.heap.size ≤ w.heap.size + 1; omega) _).setCell (by show w.heap.size ≤ w.heap.size + 1; omega) _
      · exact ((HP1.out.other (by omega) _ _).other (by omega) _ _).other (by omega) _ _
      · have := ((HP2.out.put (k * 3) (.int .i64 v)).put (k * 3 + 1) (.int .i64 u)).put (k * 3 + 2) (.int .i64 c)
        rw [fnRow_set (by omega), fnRow_set (by omega), fnRow_set (by omega)] at this
        exact this
    · obtain rfl : k = E.length := by omega
      go_wp2_with fail
      go_ret
      refine ⟨w.heap.size, rfl, ⟨FA, fc, some ⟨w.heap.size + 1, 0, none⟩, E.length, ?_, HF.out.keep hn, ?_⟩, hn⟩
      · rw [turnE_len]; exact p1
      · refine ⟨by rw [turnE_len]; omega, fun _ => ⟨w.heap.size + 1, 0, rfl, p2.lt, fun i hi => ?_⟩⟩
        rw [turnE_len] at hi
        have et : (turnE E)[i]?.getD default = ((eAt E i).2.1, (eAt E i).1, (eAt E i).2.2) := by
          unfold turnE eAt
          rw [List.getElem?_map, List.getElem?_eq_getElem hi]; rfl
        rw [et]
        obtain ⟨h1, h2, h3⟩ := hf i hi
        have d0 := p2.cell (fnRow_get (f := f) (i := i * 3) (by omega))
        have d1 := p2.cell (fnRow_get (f := f) (i := i * 3 + 1) (by omega))
        have d2 := p2.cell (fnRow_get (f := f) (i := i * 3 + 2) (by omega))
        rw [h1] at d0
        rw [h2] at d1
        rw [h3] at d2
        rw [Nat.zero_add]
        exact ⟨d0, d1, d2⟩
end Go.Proofs.YtodmbcoobjcooaaDoor
