/-
  way of the program, on a loop of the edges by which the sums came; slices.Reverse at numbers. Condition: the wave lies in memory.
  leaveByLoop of the program, whatever the edges by which the sums came: it panics with a loop of them, or there is none. Condition: the wave lies in memory.
-/
import Derived.Test.YtodmbcoobjcooaaDoorCkWaves
import Derived.Test.YtodmbcoobjcooaaDoorCkGenR
import Derived.Test.YtodmbcoobjcooaaDoorCkNewNet
import Derived.Lib.RowBridge
namespace Go.Proofs.YtodmbcoobjcooaaDoor
open Go Go.RowKit Go.Shelf
attribute [local go_sem] Oper.semAt_some
theorem row_setCells (g : Nat) (e : TypeId) : ∀ (vs : List Value) (o : Nat) (w : World) (cs : List Value), RowIs w g e cs → o + vs.length ≤ cs.length → RowIs (w.setCells g o vs) g e (cs.take o ++ vs ++ cs.drop (o + vs.length))
  | [], o, w, cs, h, _ => by
    rw [World.setCells, List.length_nil, Nat.add_zero, List.append_nil, List.take_append_drop]
    exact h
  | v :: vs, o, w, cs, h, hl => by
    rw [List.length_cons] at hl
    have h2 := row_setCells g e vs (o + 1) (w.setCell ⟨g, o, none⟩ v) (cs.set o v) (h.put o v) (by rw [List.length_set]; omega)
    rw [World.setCells]
    have e1 : (cs.set o v).take (o + 1) = cs.take o ++ [v] := by
      rw [List.take_succ_eq_append_getElem (by rw [List.length_set]; omega), List.getElem_set_self, List.take_set_of_le (Nat.le_refl _)]
    have e2 : (cs.set o v).drop (o + 1 + vs.length) = cs.drop (o + (v :: vs).length) := by
      rw [List.drop_set_of_lt (by omega), List.length_cons]
      congr 1
      omega
    rw [e1, e2, List.append_assoc (cs.take o)] at h2
    exact h2
theorem setCells_grown {w : World} {g : Nat} (vs : List Value) (o : Nat) : w.grownBy (w.setCells g o vs) (some g) := by
  refine ⟨World.os_setCells w g o vs, ?_, World.output_setCells w g o vs, ?_, fun k hk hne => World.heap_setCells_other w g o vs hk (fun e => hne (by rw [e]))⟩
  · induction vs generalizing o w with
    | nil => rfl
    | cons v vs ih => rw [World.setCells, ih]; rfl
  · induction vs generalizing o w with
    | nil => exact Nat.le_refl _
    | cons v vs ih =>
      rw [World.setCells]
      have := ih (w := w.setCell ⟨g, o, none⟩ v) (o := o + 1)
      simpa [World.setCell] using this
def natV (k : List Nat) : List Value := k.map fun (i : Nat) => Value.int .i64 (i : Int)
theorem natV_len (k : List Nat) : (natV k).length = k.length := by simp [natV]
theorem natV_ints (k : List Nat) : natV k = (k.map Int.ofNat).map (Value.int .i64) := by simp [natV]
/-- slices.Reverse at numbers of the call's own. -/
theorem ck_rev (base : Nat) (ks : List Nat) (v : Value) (w : World) (h : w.ownsRow base 3 1 v ks.length (natV ks)) :
    Calls Tryd.prog 111 #[v] w fun e w' => e = .returned (.tuple #[]) ∧ (w'.ownsRow base 3 1 v ks.length (natV ks.reverse) ∧ w.grownBy w' v.ownBlock) := by
  have h0 := h
  obtain ⟨hl, h2⟩ := h
  have kl : (ks.map Int.ofNat).length = ks.length := by simp
  rcases h2 with ⟨rfl, hz⟩ | ⟨g, cap, cur, rfl, hb, hh, h3, h4, h5, h6⟩
  · have hn := List.eq_nil_of_length_eq_zero hz
    subst hn
    refine (AnyG.slices_Reverse_int_empty Tryd.revInt none 0 w).mono ?_
    rintro e w' ⟨rfl, rfl⟩
    exact ⟨rfl, World.ownsRow_nil _ _ _ _, grown_of (New.refl _) _⟩
  · have hr : RowIs w g 3 cur.toList := hh
    have hcell : ∀ j, j < (ks.map Int.ofNat).length → w.cell? ⟨g, 0 + j, none⟩ = some (.int .i64 ((ks.map Int.ofNat).getD j 0)) := fun j hj => by
      rw [kl] at hj
      rw [Nat.zero_add, h0.cellAt j (by omega), natV_ints, List.getElem?_map, List.getD_eq_getElem?_getD, List.getElem?_eq_getElem (by rw [kl]; exact hj)]
      rfl
    refine (AnyG.slices_Reverse_int_cells Tryd.revInt g 0 ks.length cap (ks.map Int.ofNat) w (by rw [kl]; exact Nat.le_refl _) (by unfold maxLen at h4; omega) hcell (fun j _ => hr.free _)).mono ?_
    rintro e w' ⟨rfl, q, rfl⟩
    rw [List.take_of_length_le (by rw [kl]; exact Nat.le_refl _)]
    have e1 : (ks.map Int.ofNat).reverse.map (Value.int .i64) = natV ks.reverse := by
      simp [natV_ints]
    rw [e1]
    have hq : RowIs (w.drewN q) g 3 cur.toList := hr.keep ((New.refl w).drewN q)
    have hcl : ks.length ≤ cur.toList.length := by simp; omega
    have hrow := row_setCells g 3 (natV ks.reverse) 0 _ cur.toList hq (by rw [natV_len, List.length_reverse]; omega)
    refine ⟨rfl, ⟨by rw [natV_len, List.length_reverse]; omega, Or.inr ⟨g, cap, (natV ks.reverse ++ cur.toList.drop ks.length).toArray, rfl, hb, ?_, h3, h4, ?_, ?_⟩⟩, ?_⟩
    · have e2 : 0 + (natV ks.reverse).length = ks.length := by rw [natV_len, List.length_reverse]; omega
      rw [e2, List.take_zero, List.nil_append] at hrow
      exact hrow
    · simp [natV_len]; omega
    · rw [Nat.mul_one]
      show (natV ks.reverse ++ cur.toList.drop ks.length).take ks.length = _
      rw [List.take_append_of_le_length (by rw [natV_len, List.length_reverse]; exact Nat.le_refl _), List.take_of_length_le (by rw [natV_len, List.length_reverse]; exact Nat.le_refl _)]
    · exact (grown_of ((New.refl w).drewN q) _).trans (setCells_grown _ _)
theorem Lead.last {E : List Eg} {i : Nat} {v : Nat} : ∀ {l : List Nat} {u : Nat}, Lead E u (l ++ [i]) v → ∃ e, E[i]? = some e ∧ e.2.1 = v ∧ Lead E u l e.1
  | [], u, h => by
    obtain ⟨e, h1, h2, h3⟩ := h
    exact ⟨e, h1, h3, h2.symm⟩
  | j :: l, u, h => by
    obtain ⟨f, h1, h2, h3⟩ := h
    obtain ⟨e, k1, k2, k3⟩ := Lead.last (l := l) h3
    exact ⟨e, k1, k2, f, h1, h2, k3⟩
/-- A place from which the way back ends is on no loop. -/
theorem Tm.noloop {E : List Eg} {b : Nat → Int} {u r : Nat} {k : List Nat} (h : Tm E b u k r) : ∀ l, l ≠ [] → Lead E u l u → ByL E b l → False := by
  induction h with
  | @root v hb =>
    intro l hl hL hB
    obtain ⟨l0, i, rfl⟩ : ∃ l0 i, l = l0 ++ [i] := ⟨l.dropLast, l.getLast hl, (List.dropLast_concat_getLast hl).symm⟩
    obtain ⟨e, h1, h2, _⟩ := hL.last
    have := hB i e (by simp) h1
    rw [h2, hb] at this
    omega
  | @step v i r e k hb he hv ht ih =>
    intro l hl hL hB
    obtain ⟨l0, j, rfl⟩ : ∃ l0 i, l = l0 ++ [i] := ⟨l.dropLast, l.getLast hl, (List.dropLast_concat_getLast hl).symm⟩
    obtain ⟨f, h1, h2, h3⟩ := hL.last
    have hbj := hB j f (by simp) h1
    rw [h2, hb] at hbj
    have hij : i = j := by omega
    subst hij
    rw [he] at h1
    obtain rfl := Option.some.inj h1
    refine ih (i :: l0) (by simp) ⟨e, he, rfl, ?_⟩ (fun q f hq hf => ?_)
    · rw [hv]; exact h3
    · exact hB q f (by rcases List.mem_cons.1 hq with rfl | hq <;> simp [*]) hf
set_option maxRecDepth 100000 in
set_option maxHeartbeats 4000000 in
theorem ck_wayLoop {w0 W : World} {g sb bb n : Nat} {EA : Option Addr} {ec : Nat} {E : List Eg} {d b : Nat → Int} (h : WavA w0 W g sb bb n EA ec E d b) (hE : EOk E n 22001) (v : Nat) (hv : v < n) (l : List Nat) (hl : l ≠ []) (hL : Lead E v l v) (hB : ByL E b l) (hll : l.length ≤ 1000000) :
    Calls Tryd.prog 109 #[.pointer (some ⟨g, 0, none⟩), .int .i64 v, .int .i64 v] W fun e w' => ∃ V k, e = .returned V ∧ k ≠ [] ∧ Lead E v k v ∧ ByL E b k ∧ w'.ownsRow W.heap.size 3 1 V k.length (natV k) ∧ New W w' ∧ k.length ≤ l.length := by
  have H := Lib.hid h
  have HB := Lib.hid hB
  have HE := Lib.hid hE
  have HL := Lib.hid hL
  have HNE := Lib.hid hl
  clear h hB hE hL hl
  go_enter Tryd.func109, Tryd.ntmps109
  go_wp2_with fail
  go_loopg [7, 8] (l.length) (fun gk V i wr => ∃ (l1 l2 : List Nat) (x : Nat) (A : Option Addr) (c m : Nat), gk = l1.length ∧ V = .slice A m c ∧ l2.length = m ∧ i = .int .i64 x ∧ x < n ∧ l = l1 ++ l2 ∧ l1 ≠ [] ∧ Lead E v l1 x ∧ Lead E x l2 v ∧ New W wr ∧ wr.ownsRow W.heap.size 3 1 (.slice A m c) m (natV l2.reverse))
  case atStart => exact ⟨l, [], v, none, 0, 0, rfl, rfl, rfl, rfl, hv, by simp, HNE.out, HL.out, rfl, New.refl _, World.ownsRow_nil _ _ _ _⟩
  case round =>
    obtain ⟨l1, l2, x, A, c, m, hgk, rfl, hm, rfl, hx, hll2, hne, hL1, hL2, hn2, ho⟩ := hrel
    obtain ⟨l0, i, rfl⟩ : ∃ l0 i, l1 = l0 ++ [i] := ⟨l1.dropLast, l1.getLast hne, (List.dropLast_concat_getLast hne).symm⟩
    obtain ⟨e, he, hex, hL0⟩ := hL1.last
    have hi : i < E.length := (List.getElem?_eq_some_iff.1 he).1
    have hbx : b x = i := by
      have := HB.out i e (by rw [hll2]; simp) he
      rwa [hex] at this
    have hml : m ≤ 1000000 := by
      have := congrArg List.length hll2
      simp only [List.length_append] at this
      omega
    have hf := HE.out.fst e (List.mem_of_getElem? he)
    have c2 := (H.out.keep hn2).bys.cell (fnRow_get (f := b) hx)
    rw [hbx] at c2
    have g2 := (H.out.keep hn2).row.cell (i := 2) rfl
    have j1 : (x : Int) < (n : Int) := by omega
    have hq : ((i : Int) != -1) = true := by simp
    have HEA : Hid (E[i]? = some e) := Lib.hid he
    have HLL := Lib.hid hll2
    have HL0 := Lib.hid hL0
    have HL2 := Lib.hid hL2
    have HN2 := Lib.hid hn2
    have HO := Lib.hid ho
    have HGK := Lib.hid hgk
    have HEX := Lib.hid hex
    have HM := Lib.hid hm
    obtain ⟨i0, hi0, hz0, hz1, hz2⟩ := info_parts info_int
    have HI := Lib.hid (And.intro hi0 (And.intro hz0 (And.intro hz1 hz2)))
    have HBS : Hid (W.heap.size ≤ (wr.alloc (.cells #[.int .i64 i] 3)).heap.size) := Lib.hid (by have := hn2.size; simp; omega)
    clear hi0 hz0 hz1 hz2 he hll2 hL0 hL1 hL2 hn2 ho hgk hex hm
    go_wp2_with (at_builtin; go_loud (refine wpList_append_lies _ rfl (.tmp 18) (.tmp 26) 26 rfl W.heap.size 3 i0 (.int .i64 0) 1 8 Tryd.underlying26 HI.out.1 HI.out.2.1 HI.out.2.2.1 HI.out.2.2.2 rfl (by decide) (.slice A m c) m _ rfl (owns_keep HO.out ((New.refl wr).alloc _)) ⟨wr.heap.size, 0, none⟩ 1 1 [.int .i64 i] rfl rfl (World.news_of_block (cs := #[.int .i64 i]) (heap_alloc_new wr _)) (by simp [Value.oneCell']) (by decide) (by unfold maxLen; omega) (by omega) HBS.out _ rfl ?_))
    intro g3 c3 w3 ho3 hg3 _ _
    have hv3 := owns_keep HO.out ((New.refl wr).alloc (.cells #[.int .i64 i] 3))
    have hn3 : New W w3 := Below.trans (HN2.out.trans ((New.refl wr).alloc _)) (grown_below hv3 hg3 HBS.out)
    have HN3 := Lib.hid hn3
    have ho3' : w3.ownsRow W.heap.size 3 1 (.slice (some ⟨g3, 0, none⟩) (m + 1) c3) (m + 1) (natV (i :: l2).reverse) := by
      have e1 : natV (i :: l2).reverse = natV l2.reverse ++ [.int .i64 i] := by unfold natV; simp
      rw [e1]
      exact ho3
    have HO3 := Lib.hid ho3'
    clear hv3 ho3 hg3 ho3' c2 g2
    have H3 := Lib.hid (H.out.keep hn3)
    obtain ⟨eb, eo, hEA, z0, z1, z2⟩ := H3.out.edge hi
    have ee : E[i]?.getD default = e := by rw [HEA.out]; rfl
    rw [ee] at z0
    have hel2 := H3.out.len
    have j3 : (i : Int) < (E.length : Int) := by omega
    subst hEA
    have g0 := H3.out.row.cell (i := 0) rfl
    have g2 := H3.out.row.cell (i := 2) rfl
    have c2 := H3.out.bys.cell (fnRow_get (f := b) hx)
    clear z1 z2 ee hn3
    obtain ⟨u, t, cc⟩ := e
    dsimp only at hf z0
    have z0' := H3.out.new.cellOf z0
    rw [hbx] at c2
    clear z0
    go_wp2_with fail
    go_quiet (fail)
    have HN4 := Lib.hid (HN3.out.trans ((New.refl w3).drewN nq))
    have HO4 := Lib.hid (owns_keep HO3.out ((New.refl w3).drewN nq))
    clear z0' c2 g0 g2 H3 HN3 HO3
    generalize w3.drewN nq = w4 at *
    have HL3 : Hid (Lead E u (i :: l2) v) := Lib.hid ⟨(u, t, cc), HEA.out, rfl, by
      have h1 : t = x := HEX.out
      show Lead E t l2 v
      rw [h1]; exact HL2.out⟩
    by_cases huv : u = v
    · subst huv
      have hl3 : (i :: l2).reverse.length = m + 1 := by simp [HM.out]
      have HRV := Lib.hid (ck_rev W.heap.size (i :: l2).reverse (.slice (some ⟨g3, 0, none⟩) (m + 1) c3) w4 (by rw [hl3]; exact HO4.out))
      rw [hl3, List.reverse_reverse] at HRV
      go_wp2_with fail
      refine HRV.out.mono ?_
      rintro e w5 ⟨rfl, ho5, hg5⟩
      go_wp2_with fail
      go_ret
      refine ⟨_, i :: l2, rfl, by simp, HL3.out, fun q f hq hf2 => HB.out q f (by rw [HLL.out]; simp only [List.mem_append, List.mem_cons] at hq ⊢; rcases hq with rfl | hq <;> simp [*]) hf2, ?_, Below.trans HN4.out (grown_below HO4.out hg5 HN4.out.size), ?_⟩
      · rw [List.length_cons, HM.out]
        exact ho5
      · rw [HLL.out]
        simp only [List.length_append, List.length_cons, List.length_nil]
        omega
    · have huv' : ((u : Int) == (v : Int)) = false := by simp; omega
      go_wp2_with fail
      go_roundg (l0.length)
      case measure => have := HGK.out; simp at this; omega
      case rel => exact ⟨l0, i :: l2, u, some ⟨g3, 0, none⟩, c3, m + 1, rfl, rfl, by rw [List.length_cons, HM.out], rfl, hf, by rw [HLL.out]; simp, fun h0 => by
        have := HL0.out
        rw [h0] at this
        exact huv this.symm, HL0.out, HL3.out, HN4.out, HO4.out⟩
end Go.Proofs.YtodmbcoobjcooaaDoor

namespace Go.Proofs.YtodmbcoobjcooaaDoor
open Go Go.RowKit Go.Shelf
attribute [local go_sem] Oper.semAt_some
/-- The way back of a place ends where that of a place behind it does. -/
theorem Tm.join {E : List Eg} {b : Nat → Int} {x r : Nat} {k : List Nat} (h : Tm E b x k r) : ∀ (m : Nat) (l : List Nat) (v : Nat), l.length = m → Lead E x l v → ByL E b l → Tm E b v (k ++ l) r
  | 0, l, v, hl, hL, _ => by
    obtain rfl := List.eq_nil_of_length_eq_zero hl
    have e : x = v := hL
    subst e
    rwa [List.append_nil]
  | m + 1, l, v, hl, hL, hB => by
    have hne : l ≠ [] := fun e => by rw [e] at hl; cases hl
    obtain ⟨l0, i, rfl⟩ : ∃ l0 i, l = l0 ++ [i] := ⟨l.dropLast, l.getLast hne, (List.dropLast_concat_getLast hne).symm⟩
    obtain ⟨e, he, hev, hL0⟩ := hL.last
    have hb := hB i e (by simp) he
    rw [hev] at hb
    have := Tm.join h m l0 e.1 (by simp at hl; omega) hL0 (fun q f hq hf => hB q f (by simp [hq]) hf)
    rw [← List.append_assoc]
    exact .step hb he hev this
theorem zerosN_le (n : Nat) (m : Nat → Int) : zerosN n m ≤ n := by
  have := List.countP_le_length (p := fun i => decide (m i = 0)) (l := List.range n)
  rwa [List.length_range] at this
theorem fin_all {E : List Eg} {n s z x : Nat} {b m : Nat → Int} (hf : ∀ v, v < n → m v ≠ 0 → m v ≠ s + 1 → ∃ l r, Tm E b v l r) (hl : ∀ v, v < n → m v = s + 1 → ∃ l, l ≠ [] ∧ l.length + z ≤ n ∧ Lead E x l v ∧ ByL E b l) {k : List Nat} {r : Nat} (ht : Tm E b x k r) : ∀ v, v < n → m v ≠ 0 → ∃ l r, Tm E b v l r := fun v hv h0 => by
  by_cases h1 : m v = s + 1
  · obtain ⟨l, _, _, h2, h3⟩ := hl v hv h1
    exact ⟨_, _, ht.join _ l v rfl h2 h3⟩
  · exact hf v hv h0 h1
theorem done_all {s x : Nat} {b m : Nat → Int} (hd : ∀ v, v < s → m v ≠ 0 ∨ b v = -1) (hs : x = s ∨ m s ≠ 0) (hx : m x ≠ 0 ∨ b x = -1) : ∀ v, v < s + 1 → m v ≠ 0 ∨ b v = -1 := fun v hv => by
  by_cases e : v < s
  · exact hd v e
  · obtain rfl : v = s := by omega
    rcases hs with rfl | h
    · exact hx
    · exact .inl h
/-- How leaveByLoop ends. -/
def LeaveP (E : List Eg) (n : Nat) (b : Nat → Int) (e : Ending) (w' W : World) : Prop :=
  (e = .returned (.tuple #[]) ∧ New W w' ∧ ∀ l v, l ≠ [] → Lead E v l v → ByL E b l → False) ∨
  ∃ V k v, e = .panicked [{ v := .iface 126 V, recovered := false }] ∧ New W w' ∧ k ≠ [] ∧ Lead E v k v ∧ ByL E b k ∧ w'.ownsRow W.heap.size 3 1 V k.length (natV k) ∧ k.length ≤ n
set_option maxRecDepth 100000 in
set_option maxHeartbeats 4000000 in
theorem ck_leaveG {w0 W : World} {g sb bb n : Nat} {EA : Option Addr} {ec : Nat} {E : List Eg} {d b : Nat → Int} (h : WavA w0 W g sb bb n EA ec E d b) (hE : EOk E n 22001) (hb : ByOk E n b) (hn : n ≤ 30000) :
    Calls Tryd.prog 130 #[.pointer (some ⟨g, 0, none⟩)] W fun e w' => LeaveP E n b e w' W := by
  have H := Lib.hid h
  have HB := Lib.hid hb
  have HEE := Lib.hid hE
  have g1 := h.row.cell (i := 1) rfl
  have hmk : ∀ w : World, (Instr.makeSlice 26 (.int .i64 n) (.int .i64 n)).run Tryd.prog w = .ok (.slice (some ⟨w.heap.size, 0, none⟩) n n) (w.alloc (.cells (Array.replicate n (.int .i64 0)) 3)) := fun w => make_row (bytes := 8) Tryd.underlying26 (by kernel_rfl) rfl (by decide) n (by omega) w
  have n1 := (New.refl W).alloc (.cells (Array.replicate n (.int .i64 0)) 3)
  have R := RowIs.zeros W 3 n (.int .i64 0)
  have eR : List.replicate n (Value.int .i64 0) = fnRow n (fun _ => 0) := by
    apply List.ext_getElem?
    intro j
    by_cases hj : j < n
    · rw [fnRow_get hj, List.getElem?_replicate]; simp [hj]
    · rw [List.getElem?_eq_none (by simp; omega), List.getElem?_eq_none (by rw [fnRow_len]; omega)]
  rw [eR] at R
  have H1 := Lib.hid (h.keep n1)
  have HN1 := Lib.hid n1
  have HR1 := Lib.hid R
  have g1' := H1.out.row.cell (i := 1) rfl
  clear h hb hE n1 R eR
  go_enter Tryd.func130, Tryd.ntmps130
  go_wp2_with fail
  clear g1 g1' hmk
  generalize hwk : W.heap.size = wk at *
  have HWK : Hid (wk ≠ g ∧ wk ≠ sb ∧ wk ≠ bb) := Lib.hid ⟨by have := H.out.row.lt; omega, by have := H.out.sums.lt; omega, by have := H.out.bys.lt; omega⟩
  generalize W.alloc (.cells (Array.replicate n (.int .i64 0)) 3) = W1 at *
  go_loopw [16] (fun i wr => ∃ (s : Nat) (m : Nat → Int), s ≤ n ∧ i = .int .i64 s ∧ (∀ v, v < n → 0 ≤ m v ∧ m v ≤ s) ∧ (∀ v, v < n → m v ≠ 0 → ∃ l r, Tm E b v l r) ∧ (∀ v, v < s → m v ≠ 0 ∨ b v = -1) ∧ RowIs wr wk 3 (fnRow n m) ∧ WavA w0 wr g sb bb n EA ec E d b ∧ New W wr) (fun i _ => n - (intOf i).toNat)
  case atStart => exact ⟨0, fun _ => 0, Nat.zero_le _, rfl, fun _ _ => by simp, fun _ _ h => absurd rfl h, fun v hv => absurd hv (Nat.not_lt_zero v), HR1.out, H1.out, HN1.out⟩
  case round =>
    obtain ⟨s, m, hs, rfl, hm, hfin, hdone, hr, hw, hnw⟩ := hrel
    have HFI := Lib.hid hfin
    have HDO := Lib.hid hdone
    clear hfin hdone
    obtain ⟨Wo, hWo⟩ : ∃ x, x = wr := ⟨wr, rfl⟩
    subst hWo
    by_cases hlt : s < n
    · have HM := Lib.hid hm
      have HR := Lib.hid hr
      have HW := Lib.hid hw
      have HNW := Lib.hid hnw
      have i1 : (s : Int) < (n : Int) := by omega
      clear hm hr hw hnw H1 HN1 HR1
      go_wp2_with fail
      go_loopg [4] (zerosN n m) (fun gk i wr => ∃ (x : Nat) (m' : Nat → Int), gk = zerosN n m' ∧ x < n ∧ i = .int .i64 x ∧ (∀ v, v < n → 0 ≤ m' v ∧ m' v ≤ s + 1) ∧ (∀ v, v < n → m' v = s + 1 → ∃ l, l ≠ [] ∧ l.length + zerosN n m' ≤ n ∧ Lead E x l v ∧ ByL E b l) ∧ ((∀ v, v < n → m' v ≠ 0 → m' v ≠ s + 1 → ∃ l r, Tm E b v l r) ∧ (∀ v, v < s → m' v ≠ 0 ∨ b v = -1) ∧ (x = s ∨ m' s ≠ 0)) ∧ RowIs wr wk 3 (fnRow n m') ∧ WavA w0 wr g sb bb n EA ec E d b ∧ New W wr)
      case atStart => exact ⟨s, m, rfl, hlt, rfl, fun v hv => by have := HM.out v hv; omega, fun v hv h => by have := HM.out v hv; omega, ⟨fun v hv h _ => HFI.out v hv h, HDO.out, .inl rfl⟩, HR.out, HW.out, HNW.out⟩
      case round =>
        obtain ⟨x, m', hgk, hx, rfl, hm, hl, ⟨hfin, hdone, hst⟩, hr, hw, hnw⟩ := hrel
        have HFI2 := Lib.hid hfin
        have HDO2 := Lib.hid hdone
        have HST := Lib.hid hst
        clear hfin hdone hst
        have HM2 := Lib.hid hm
        have HL2 := Lib.hid hl
        have HR2 := Lib.hid hr
        have HW2 := Lib.hid hw
        have HN2 := Lib.hid hnw
        have HG := Lib.hid hgk
        have hmx := hm x hx
        have c1 := hr.cell (fnRow_get (f := m') hx)
        have c2 := hw.bys.cell (fnRow_get (f := b) hx)
        have g2 := hw.row.cell (i := 2) rfl
        have j1 : (x : Int) < (n : Int) := by omega
        have j2 : (0 : Int) ≤ (x : Int) := by omega
        have hbx := HB.out x hx
        clear hm hl hr hw hnw hgk
        by_cases hz : m' x = 0
        · rcases hbx with hbx | ⟨i, hbx, hi, htg⟩
          · rw [hz] at c1
            rw [hbx] at c2
            have HZ := Lib.hid hz
            have q1 : ((0 : Int) == (s : Int) + 1) = false := by simp; omega
            have HBM := Lib.hid hbx
            clear hz hbx
            go_wp2_with fail
            go_roundw
            case rel => exact ⟨s + 1, m', by omega, by go_num, fun v hv => by have := HM2.out v hv; omega, fin_all HFI2.out HL2.out (.root HBM.out), done_all HDO2.out HST.out (.inr HBM.out), HR2.out, HW2.out, HN2.out⟩
            case measure => simp [intOf]; omega
          · rw [hz] at c1
            rw [hbx] at c2
            have hf := HEE.out.fst (eAt E i) (List.mem_of_getElem? (eAt_get hi))
            obtain ⟨eb, eo, rfl, z0, z1, z2⟩ := HW2.out.edge hi
            have ee : E[i]?.getD default = eAt E i := rfl
            rw [ee] at z0
            have hel := HW2.out.len
            have j3 : (i : Int) < (E.length : Int) := by omega
            have j4 : (0 : Int) ≤ (i : Int) := by omega
            have HZ := Lib.hid hz
            have HBX := Lib.hid hbx
            have HTG := Lib.hid htg
            have HEG : Hid (E[i]? = some (eAt E i)) := Lib.hid (eAt_get hi)
            have hq : ((i : Int) != -1) = true := by simp
            have hfz := HR2.out.free x
            clear hz hbx htg ee z1 z2
            generalize eAt E i = e at *
            obtain ⟨u, v, cc⟩ := e
            dsimp only at hf z0
            have z0' := HW2.out.new.cellOf z0
            clear z0
            go_wp2_with fail
            clear c1 c2 g2 hfz z0' hq
            have HR3 : Hid (RowIs (wr.setCell ⟨wk, x, none⟩ (.int .i64 ((s : Int) + 1))) wk 3 (fnRow n (upd m' x ((s : Int) + 1)))) := Lib.hid (by have h := HR2.out.put x (.int .i64 ((s : Int) + 1)); rwa [fnRow_set hx] at h)
            have HFR := Lib.hid (HW2.out.row.other HWK.out.1 x (.int .i64 ((s : Int) + 1)))
            have HW3 : Hid (WavA w0 (wr.setCell ⟨wk, x, none⟩ (.int .i64 ((s : Int) + 1))) g sb bb n (some ⟨eb, eo, none⟩) ec E d b) := Lib.hid ⟨HW2.out.new.setCell (by have := H.out.new.size; show w0.heap.size ≤ wk; omega) _, HW2.out.egs, HW2.out.hg, HW2.out.hs, HW2.out.hb, HW2.out.gs, HW2.out.gb, HW2.out.ne, HFR.out, HW2.out.sums.other HWK.out.2.1 _ _, HW2.out.bys.other HWK.out.2.2 _ _⟩
            have HN3 : Hid (New W (wr.setCell ⟨wk, x, none⟩ (.int .i64 ((s : Int) + 1)))) := Lib.hid (HN2.out.setCell (by show W.heap.size ≤ wk; omega) _)
            have HZZ := Lib.hid (zeros_upd n m' x ((s : Int) + 1) hx HZ.out (by omega))
            clear HR2 HW2 HN2 HFR
            generalize wr.setCell ⟨wk, x, none⟩ (.int .i64 ((s : Int) + 1)) = W3 at *
            have g0 := HW3.out.row.cell (i := 0) rfl
            have g2 := HW3.out.row.cell (i := 2) rfl
            have c2 := HW3.out.bys.cell (fnRow_get (f := b) hx)
            rw [HBX.out] at c2
            obtain ⟨eb2, eo2, heq, z0, -, -⟩ := HW3.out.edge hi
            have ee : E[i]?.getD default = (u, v, cc) := by rw [HEG.out]; rfl
            rw [ee] at z0
            simp only [Option.some.injEq, Addr.mk.injEq, and_true] at heq
            obtain ⟨rfl, rfl⟩ := heq
            dsimp only at z0
            have z0' := HW3.out.new.cellOf z0
            clear ee z0
            go_quiet (fail)
            rename_i nq
            have HW4 := Lib.hid (HW3.out.keep ((New.refl W3).drewN nq))
            have HR4 := Lib.hid (HR3.out.keep ((New.refl W3).drewN nq))
            have HN4 := Lib.hid (HN3.out.drewN nq)
            clear g0 g2 c2 z0'
            go_wp2_with fail
            go_roundg (zerosN n (upd m' x ((s : Int) + 1)))
            case measure => have h1 := HZZ.out; have h2 := HG.out; omega
            case rel =>
              refine ⟨u, upd m' x ((s : Int) + 1), rfl, hf, rfl, fun y hy => ?_, fun y hy hms => ?_, ⟨fun y hy h1 h2 => ?_, fun y hy => ?_, .inr ?_⟩, HR4.out, HW4.out, HN4.out⟩
              rotate_left 2
              · have hyx : y ≠ x := fun e => h2 (by rw [e, upd_same])
                rw [upd_other _ _ hyx] at h1 h2
                exact HFI2.out y hy h1 h2
              · by_cases hyx : y = x
                · rw [hyx, upd_same]; exact .inl (by omega)
                · rw [upd_other _ _ hyx]; exact HDO2.out y hy
              · by_cases hyx : s = x
                · rw [hyx, upd_same]; omega
                · rw [upd_other _ _ hyx]
                  rcases HST.out with h3 | h3
                  · exact absurd h3.symm hyx
                  · exact h3
              · unfold upd
                split
                · omega
                · exact HM2.out y hy
              · have hLx : Lead E u [i] x := ⟨(u, v, cc), HEG.out, rfl, HTG.out⟩
                have hBx : ByL E b [i] := fun j f hj hfj => by
                  rw [List.mem_singleton] at hj
                  subst hj
                  rw [HEG.out] at hfj
                  obtain rfl := Option.some.inj hfj
                  show b v = _
                  have h1 : v = x := HTG.out
                  rw [h1]; exact HBX.out
                by_cases hyx : y = x
                · subst hyx
                  exact ⟨[i], by simp, by have h1 := HZZ.out; have h2 := zerosN_le n m'; simp only [List.length_singleton]; omega, hLx, hBx⟩
                · rw [upd_other _ _ hyx] at hms
                  obtain ⟨l, hl1, hl0, hl2, hl3⟩ := HL2.out y hy hms
                  refine ⟨i :: l, by simp, by have h1 := HZZ.out; simp only [List.length_cons]; omega, ⟨(u, v, cc), HEG.out, rfl, ?_⟩, fun j f hj hfj => ?_⟩
                  · have h1 : v = x := HTG.out
                    rw [h1]; exact hl2
                  · rcases List.mem_cons.1 hj with rfl | hj
                    · exact hBx _ f (List.mem_singleton.2 rfl) hfj
                    · exact hl3 j f hj hfj
        · have hz' : (m' x == 0) = false := by simpa using hz
          by_cases hne : m' x = (s : Int) + 1
          · obtain ⟨l, hl1, hl0, hl2, hl3⟩ := HL2.out x hx hne
            have hne' : (m' x == (s : Int) + 1) = true := by simpa using hne
            have HWY : Hid (∀ w2, New wr w2 → _) := Lib.hid fun w2 k2 => ck_wayLoop (HW2.out.keep k2) HEE.out x hx l hl1 hl2 hl3 (by omega)
            clear hz hne hbx
            go_wp2_with fail
            refine (HWY.out _ (New.refl _)).mono ?_
            have hll7 : l.length ≤ n := by omega
            rintro e w5 ⟨V, k, rfl, hk0, hkL, hkB, hko, m5, hkl⟩
            go_wp2_with fail
            exact ⟨rfl, .inr ⟨V, k, x, rfl, HN2.out.trans m5, hk0, hkL, hkB, owns_base hko HN2.out.size, by omega⟩⟩
          · have hne' : (m' x == (s : Int) + 1) = false := by simpa using hne
            have HFX := Lib.hid (HFI2.out x hx hz hne)
            have HMX := Lib.hid hz
            clear hz hne hbx
            go_wp2_with fail
            go_roundw
            case rel =>
              obtain ⟨lx, rx, htx⟩ := HFX.out
              exact ⟨s + 1, m', by omega, by go_num, fun v hv => by have := HM2.out v hv; omega, fin_all HFI2.out HL2.out htx, done_all HDO2.out HST.out (.inl HMX.out), HR2.out, HW2.out, HN2.out⟩
            case measure => simp [intOf]; omega
    · obtain rfl : s = n := by omega
      go_wp2_with fail
      first | go_end0 | refine bodyPost_ret (results_none rfl _ _ _) rfl ?_
      refine .inl ⟨rfl, hnw, fun l v hl hL hB2 => ?_⟩
      obtain ⟨l0, i, rfl⟩ : ∃ l0 i, l = l0 ++ [i] := ⟨l.dropLast, l.getLast hl, (List.dropLast_concat_getLast hl).symm⟩
      obtain ⟨e, he, hev, _⟩ := hL.last
      have hv := HEE.out.snd e (List.mem_of_getElem? he)
      rw [hev] at hv
      rcases HDO.out v hv with h3 | h3
      · obtain ⟨k, r, ht⟩ := HFI.out v hv h3
        exact ht.noloop _ hl hL hB2
      · exact (Tm.root h3).noloop _ hl hL hB2
end Go.Proofs.YtodmbcoobjcooaaDoor
