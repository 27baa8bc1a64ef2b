/-
  way of the program along a path. Condition: the wave lies in memory, the edges by which the sums came lead there.
-/
import Derived.Test.YtcjekibebmenjaaDoorCkFindL
namespace Go.Proofs.YtcjekibebmenjaaDoor
open Go Go.RowKit Go.Shelf
attribute [local go_sem] Oper.semAt_some
set_option maxRecDepth 100000 in
set_option maxHeartbeats 4000000 in
theorem ck_wayPath {w0 W : World} {g sb bb n : Nat} {EA : Option Addr} {ec : Nat} {E : List Eg} {d b : Nat → Int} (h : WavA w0 W g sb bb n EA ec E d b) (hE : EOk E n 22001) (f v : Nat) (hv : v < n) (l : List Nat) (hl : l ≠ []) (hL : Lead E f l v) (hB : ByL E b l) (hll : l.length ≤ 1000000) :
    Calls Tryd.prog 109 #[.pointer (some ⟨g, 0, none⟩), .int .i64 f, .int .i64 v] W fun e w' => ∃ V k, e = .returned V ∧ k ≠ [] ∧ Lead E f k v ∧ ByL E b k ∧ w'.ownsRow W.heap.size 3 1 V k.length (natV k) ∧ New W w' ∧ k.length ≤ l.length := by
  have H := Lib.hid h
  have HB := Lib.hid hB
  have HE := Lib.hid hE
  have HL := Lib.hid hL
  have HNE := Lib.hid hl
  clear h hB hE hL hl
  go_enter Tryd.func109, Tryd.ntmps109
  go_wp2_with fail
  go_loopg [7, 8] (l.length) (fun gk V i wr => ∃ (l1 l2 : List Nat) (x : Nat) (A : Option Addr) (c m : Nat), gk = l1.length ∧ V = .slice A m c ∧ l2.length = m ∧ i = .int .i64 x ∧ x < n ∧ l = l1 ++ l2 ∧ l1 ≠ [] ∧ Lead E f l1 x ∧ Lead E x l2 v ∧ New W wr ∧ wr.ownsRow W.heap.size 3 1 (.slice A m c) m (natV l2.reverse))
  case atStart => exact ⟨l, [], v, none, 0, 0, rfl, rfl, rfl, rfl, hv, by simp, HNE.out, HL.out, rfl, New.refl _, World.ownsRow_nil _ _ _ _⟩
  case round =>
    obtain ⟨l1, l2, x, A, c, m, hgk, rfl, hm, rfl, hx, hll2, hne, hL1, hL2, hn2, ho⟩ := hrel
    obtain ⟨l0, i, rfl⟩ : ∃ l0 i, l1 = l0 ++ [i] := ⟨l1.dropLast, l1.getLast hne, (List.dropLast_concat_getLast hne).symm⟩
    obtain ⟨e, he, hex, hL0⟩ := hL1.last
    have hi : i < E.length := (List.getElem?_eq_some_iff.1 he).1
    have hbx : b x = i := by
      have := HB.out i e (by rw [hll2]; simp) he
      rwa [hex] at this
    have hml : m ≤ 1000000 := by
      have := congrArg List.length hll2
      simp only [List.length_append] at this
      omega
    have hff := HE.out.fst e (List.mem_of_getElem? he)
    have c2 := (H.out.keep hn2).bys.cell (fnRow_get (f := b) hx)
    rw [hbx] at c2
    have g2 := (H.out.keep hn2).row.cell (i := 2) rfl
    have j1 : (x : Int) < (n : Int) := by omega
    have hq : ((i : Int) != -1) = true := by simp
    have HEA : Hid (E[i]? = some e) := Lib.hid he
    have HLL := Lib.hid hll2
    have HL0 := Lib.hid hL0
    have HL2 := Lib.hid hL2
    have HN2 := Lib.hid hn2
    have HO := Lib.hid ho
    have HGK := Lib.hid hgk
    have HEX := Lib.hid hex
    have HM := Lib.hid hm
    obtain ⟨i0, hi0, hz0, hz1, hz2⟩ := info_parts info_int
    have HI := Lib.hid (And.intro hi0 (And.intro hz0 (And.intro hz1 hz2)))
    have HBS : Hid (W.heap.size ≤ (wr.alloc (.cells #[.int .i64 i] 3)).heap.size) := Lib.hid (by have := hn2.size; simp; omega)
    clear hi0 hz0 hz1 hz2 he hll2 hL0 hL1 hL2 hn2 ho hgk hex hm
    go_wp2_with (at_builtin; go_loud (refine wpList_append_lies _ rfl (.tmp 18) (.tmp 26) 26 rfl W.heap.size 3 i0 (.int .i64 0) 1 8 Tryd.underlying26 HI.out.1 HI.out.2.1 HI.out.2.2.1 HI.out.2.2.2 rfl (by decide) (.slice A m c) m _ rfl (owns_keep HO.out ((New.refl wr).alloc _)) ⟨wr.heap.size, 0, none⟩ 1 1 [.int .i64 i] rfl rfl (World.news_of_block (cs := #[.int .i64 i]) (heap_alloc_new wr _)) (by simp [Value.oneCell']) (by decide) (by unfold maxLen; omega) (by omega) HBS.out _ rfl ?_))
    intro g3 c3 w3 ho3 hg3 _ _
    have hv3 := owns_keep HO.out ((New.refl wr).alloc (.cells #[.int .i64 i] 3))
    have hn3 : New W w3 := Below.trans (HN2.out.trans ((New.refl wr).alloc _)) (grown_below hv3 hg3 HBS.out)
    have HN3 := Lib.hid hn3
    have ho3' : w3.ownsRow W.heap.size 3 1 (.slice (some ⟨g3, 0, none⟩) (m + 1) c3) (m + 1) (natV (i :: l2).reverse) := by
      have e1 : natV (i :: l2).reverse = natV l2.reverse ++ [.int .i64 i] := by unfold natV; simp
      rw [e1]
      exact ho3
    have HO3 := Lib.hid ho3'
    clear hv3 ho3 hg3 ho3' c2 g2
    have H3 := Lib.hid (H.out.keep hn3)
    obtain ⟨eb, eo, hEA, z0, z1, z2⟩ := H3.out.edge hi
    have ee : E[i]?.getD default = e := by rw [HEA.out]; rfl
    rw [ee] at z0
    have hel2 := H3.out.len
    have j3 : (i : Int) < (E.length : Int) := by omega
    subst hEA
    have g0 := H3.out.row.cell (i := 0) rfl
    have g2 := H3.out.row.cell (i := 2) rfl
    have c2 := H3.out.bys.cell (fnRow_get (f := b) hx)
    clear z1 z2 ee hn3
    obtain ⟨u, t, cc⟩ := e
    dsimp only at hff z0
    have z0' := H3.out.new.cellOf z0
    rw [hbx] at c2
    clear z0
    go_wp2_with fail
    go_quiet (fail)
    have HN4 := Lib.hid (HN3.out.trans ((New.refl w3).drewN nq))
    have HO4 := Lib.hid (owns_keep HO3.out ((New.refl w3).drewN nq))
    clear z0' c2 g0 g2 H3 HN3 HO3
    generalize w3.drewN nq = w4 at *
    have HL3 : Hid (Lead E u (i :: l2) v) := Lib.hid ⟨(u, t, cc), HEA.out, rfl, by
      have h1 : t = x := HEX.out
      show Lead E t l2 v
      rw [h1]; exact HL2.out⟩
    by_cases huv : u = f
    · subst huv
      have hl3 : (i :: l2).reverse.length = m + 1 := by simp [HM.out]
      have HRV := Lib.hid (ck_rev W.heap.size (i :: l2).reverse (.slice (some ⟨g3, 0, none⟩) (m + 1) c3) w4 (by rw [hl3]; exact HO4.out))
      rw [hl3, List.reverse_reverse] at HRV
      go_wp2_with fail
      refine HRV.out.mono ?_
      rintro e w5 ⟨rfl, ho5, hg5⟩
      go_wp2_with fail
      go_ret
      refine ⟨_, i :: l2, rfl, by simp, HL3.out, fun q ff hq hf2 => HB.out q ff (by rw [HLL.out]; simp only [List.mem_append, List.mem_cons] at hq ⊢; rcases hq with rfl | hq <;> simp [*]) hf2, ?_, Below.trans HN4.out (grown_below HO4.out hg5 HN4.out.size), ?_⟩
      · rw [List.length_cons, HM.out]
        exact ho5
      · rw [HLL.out]
        simp only [List.length_append, List.length_cons, List.length_nil]
        omega
    · have huv' : ((u : Int) == (f : Int)) = false := by simp; omega
      go_wp2_with fail
      go_roundg (l0.length)
      case measure => have := HGK.out; simp at this; omega
      case rel => exact ⟨l0, i :: l2, u, some ⟨g3, 0, none⟩, c3, m + 1, rfl, rfl, by rw [List.length_cons, HM.out], rfl, hff, by rw [HLL.out]; simp, fun h0 => by
        have := HL0.out
        rw [h0] at this
        exact huv this.symm, HL0.out, HL3.out, HN4.out, HO4.out⟩
end Go.Proofs.YtcjekibebmenjaaDoor
