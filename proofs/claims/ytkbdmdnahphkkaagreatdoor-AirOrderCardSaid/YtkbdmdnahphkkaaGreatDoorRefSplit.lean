/-
  What stands between the blanks, and between the strokes, of a text, in the specification. Condition: texts of at most 100000 bytes.
-/
import Derived.Test.YtkbdmdnahphkkaaGreatDoorGNum
namespace Go.Proofs.YtkbdmdnahphkkaaGreatDoor
open Go.RowKit
theorem info_str : (Tryz.prog.info? 9).map (fun i => (i.zero, i.size, i.bytes)) = some (some (.string ⟨#[]⟩), 1, 16) := by kernel_rfl
def strV (b : Bytes) : Value := .string (B b)
/-- Where a walk through a text stands: what is done, and from where the piece at hand is. -/
def PcsAt (w : World) (c : UInt8) (s : ByteArray) (i f : Nat) (done : List Bytes) (v : Value) (wr : World) : Prop :=
  f ≤ i ∧ i ≤ s.size ∧ done.length ≤ i ∧ wr.ownsRow w.heap.size 9 1 v done.length (done.map strV) ∧ piecesL c (bs s) = done ++ pcs c (((bs s).take i).drop f) ((bs s).drop i) ∧ New w wr
theorem PcsAt.start (w : World) (c : UInt8) (s : ByteArray) : PcsAt w c s 0 0 [] (.slice none 0 0) w :=
  ⟨Nat.le_refl _, Nat.zero_le _, Nat.zero_le _, World.ownsRow_nil _ _ _ _, by simp [pcs_pieces], New.refl w⟩
theorem pcs_hit {c : UInt8} {s : ByteArray} {i : Nat} {cur : Bytes} (h : i < s.size) (hc : s[i] = c) : pcs c cur ((bs s).drop i) = cur :: pcs c [] ((bs s).drop (i + 1)) := by
  rw [drop_at s i h, pcs, if_pos hc]
theorem pcs_miss {c : UInt8} {s : ByteArray} {i : Nat} {cur : Bytes} (h : i < s.size) (hc : ¬ s[i] = c) : pcs c cur ((bs s).drop i) = pcs c (cur ++ [s[i]]) ((bs s).drop (i + 1)) := by
  rw [drop_at s i h, pcs, if_neg hc]
theorem PcsAt.miss {w wr : World} {c : UInt8} {s : ByteArray} {i f : Nat} {done : List Bytes} {v : Value} (h : PcsAt w c s i f done v wr) (hi : i < s.size) (hc : ¬ s[i] = c) : PcsAt w c s (i + 1) f done v wr := by
  obtain ⟨h1, h2, h3, h4, h5, h6⟩ := h
  refine ⟨by omega, by omega, by omega, h4, ?_, h6⟩
  rw [h5, pcs_miss hi hc, take_on s i hi, List.drop_append_of_le_length (by rw [List.length_take, bs_size]; omega)]
theorem PcsAt.hit {w wr w1 : World} {c : UInt8} {s : ByteArray} {i f : Nat} {done : List Bytes} {v v' : Value} (h : PcsAt w c s i f done v wr) (hi : i < s.size) (hc : s[i] = c)
    (h4 : w1.ownsRow w.heap.size 9 1 v' (done.length + 1) (done.map strV ++ [strV (((bs s).take i).drop f)])) (h6 : New w w1) : PcsAt w c s (i + 1) (i + 1) (done ++ [((bs s).take i).drop f]) v' w1 := by
  obtain ⟨h1, h2, h3, _, h5, _⟩ := h
  refine ⟨by omega, by omega, by rw [List.length_append, List.length_singleton]; omega, by rw [List.length_append, List.length_singleton, List.map_append]; exact h4, ?_, h6⟩
  have e : ((bs s).take (i + 1)).drop (i + 1) = [] := List.drop_eq_nil_of_le (by rw [List.length_take]; omega)
  rw [h5, pcs_hit hi hc, List.append_assoc, e]
  rfl
theorem one_str (w : World) (b : Bytes) : ∀ (j : Nat) u, [strV b][j]? = some u → (w.alloc (.cells #[strV b] 9)).cell? ((⟨w.heap.size, 0, none⟩ : Addr).add j) = some u := by
  intro j u hj
  match j, hj with
  | 0, hj => simp at hj; subst hj; simp [Addr.add]
theorem one_cell (b : Bytes) : ∀ u ∈ [strV b], u.oneCell' = true := by
  intro u hu; simp at hu; subst hu; rfl
/-- A list of texts as a slice of the call's own. -/
def StrsAt (w0 : World) (l : List Bytes) (v : Value) (w : World) : Prop := w.ownsRow w0.heap.size 9 1 v l.length (l.map strV) ∧ New w0 w
theorem PcsAt.stop {w wr w1 : World} {c : UInt8} {s : ByteArray} {f : Nat} {done : List Bytes} {v v' : Value} (h : PcsAt w c s s.size f done v wr)
    (h4 : w1.ownsRow w.heap.size 9 1 v' (done.length + 1) (done.map strV ++ [strV (((bs s).take s.size).drop f)])) (h6 : New w w1) : StrsAt w (piecesL c (bs s)) v' w1 := by
  obtain ⟨h1, h2, h3, _, h5, _⟩ := h
  have e : piecesL c (bs s) = done ++ [((bs s).take s.size).drop f] := by
    have e0 : (bs s).drop s.size = [] := List.drop_eq_nil_of_le (by rw [bs_size]; exact Nat.le_refl _)
    rw [h5, e0]
    rfl
  refine ⟨?_, h6⟩
  rw [e, List.length_append, List.length_singleton, List.map_append]
  exact h4
theorem owns_keep {w w' : World} {base : Nat} {e : TypeId} {size : Nat} {v : Value} {n : Nat} {xs : List Value} (h : w.ownsRow base e size v n xs) (k : New w w') : w'.ownsRow base e size v n xs := by
  obtain ⟨h1, h2⟩ := h
  refine ⟨h1, ?_⟩
  rcases h2 with h2 | ⟨g, cap, cur, rfl, hb, hh, h3⟩
  · exact Or.inl h2
  · exact Or.inr ⟨g, cap, cur, rfl, hb, heap_keep k hh, h3⟩
theorem StrsAt.keep {w0 w w' : World} {l : List Bytes} {v : Value} (h : StrsAt w0 l v w) (k : New w w') : StrsAt w0 l v w' := ⟨owns_keep h.1 k, h.2.trans k⟩
theorem StrsAt.open' {w0 w : World} {l : List Bytes} {v : Value} (h : StrsAt w0 l v w) (hne : l ≠ []) :
    ∃ g cap, v = .slice (some ⟨g, 0, none⟩) l.length cap ∧ w0.heap.size ≤ g ∧ g < w.heap.size ∧ l.length ≤ cap ∧ ∀ (i : Nat) x, l[i]? = some x → w.cell? ⟨g, i, none⟩ = some (strV x) := by
  have hrow := h.1
  rcases h.1.2 with ⟨rfl, h0⟩ | ⟨g, cap, cur, rfl, hb, hh, h3, h4, h5, h6⟩
  · exact absurd (List.eq_nil_of_length_eq_zero (by simpa using h0)) hne
  · refine ⟨g, cap, rfl, hb, (Array.getElem?_eq_some_iff.1 hh).1, h3, fun i x hx => ?_⟩
    have hi : i < l.length := (List.getElem?_eq_some_iff.1 hx).1
    rw [hrow.cellAt i (by omega), List.getElem?_map, hx]
    rfl
theorem ref_pieces (s : ByteArray) (w : World) (hs : s.size ≤ 100000) :
    Calls Tryz.prog 91 #[.string s] w fun e w' => ∃ v, e = .returned v ∧ StrsAt w (piecesL 47 (bs s)) v w' := by
  obtain ⟨i0, hi, hz0, hz1, hz2⟩ := info_parts info_str
  go_enter Tryz.func91, Tryz.ntmps91
  go_wp2_with fail
  go_loopw [3, 4, 5] (fun v f i wr => ∃ (k g : Nat) (done : List Bytes), f = .int .i64 g ∧ i = .int .i64 k ∧ PcsAt w 47 s k g done v wr) (fun _ _ i _ => s.size - (intOf i).toNat)
  case atStart => exact ⟨0, 0, [], rfl, rfl, PcsAt.start w 47 s⟩
  case round =>
    obtain ⟨k, g, done, rfl, rfl, hp⟩ := hrel
    have h1 := hp.1
    have h2 := hp.2.1
    have h3 := hp.2.2.1
    have hown := hp.2.2.2.1
    have hn := hp.2.2.2.2.2
    have hsz := hn.size
    have HP := Lib.hid hp
    clear hp
    by_cases hlt : k < s.size
    · by_cases hc : s[k] = 47
      · have hx : (((s[k]'hlt).toNat : Int) == 47) = true := by rw [hc]; rfl
        have HC := Lib.hid hc
        clear hc
        have he : s.extract g k = B (((bs s).take k).drop g) := extract_B s g k
        go_wp2_with (at_builtin; refine wpList_append_own _ rfl (.tmp 16) (.tmp 21) 39 rfl w.heap.size 9 i0 (.string ⟨#[]⟩) 1 16 Tryz.underlying39 hi hz0 hz1 hz2 rfl (by decide) _ _ _ rfl (hown.alloc _) ⟨wr.heap.size, 0, none⟩ 1 1 [strV (((bs s).take k).drop g)] rfl rfl ?c1 ?c2 ?c3 ?c4 ?c5 ?_)
        case c1 => exact one_str _ _
        case c2 => exact one_cell _
        case c3 => unfold maxLen; omega
        case c4 => omega
        case c5 => have := hn.size; simp; omega
        · intro v' w1 hown' hgrow _
          have hN : New w w1 := (hn.alloc (.cells #[strV (((bs s).take k).drop g)] 9)).out.grown hgrow (by have := hn.size; simp; omega) (fun b hb => (hown.lt b hb).1)
          have R := HP.out.hit hlt HC.out hown' hN
          clear hown' hgrow hN hown
          go_wp2_with fail
          refine ⟨⟨k + 1, k + 1, _, rfl, rfl, R⟩, by simp [intOf]; omega⟩
      · have hx : (((s[k]'hlt).toNat : Int) == 47) = false := by
          rw [beq_eq_false_iff_ne]
          intro h
          apply hc
          apply UInt8.toNat_inj.1
          show (s[k]'hlt).toNat = 47
          omega
        have R := HP.out.miss hlt hc
        clear hc hown
        go_wp2_with fail
        refine ⟨⟨k + 1, g, done, rfl, rfl, R⟩, by simp [intOf]; omega⟩
    · obtain rfl : k = s.size := by omega
      have he : s.extract g s.size = B (((bs s).take s.size).drop g) := extract_B s g s.size
      go_wp2_with (at_builtin; refine wpList_append_own _ rfl (.tmp 25) (.tmp 29) 39 rfl w.heap.size 9 i0 (.string ⟨#[]⟩) 1 16 Tryz.underlying39 hi hz0 hz1 hz2 rfl (by decide) _ _ _ rfl (hown.alloc _) ⟨wr.heap.size, 0, none⟩ 1 1 [strV (((bs s).take s.size).drop g)] rfl rfl ?d1 ?d2 ?d3 ?d4 ?d5 ?_)
      case d1 => exact one_str _ _
      case d2 => exact one_cell _
      case d3 => unfold maxLen; omega
      case d4 => omega
      case d5 => have := hn.size; simp; omega
      · intro v' w1 hown' hgrow _
        have hN : New w w1 := (hn.alloc (.cells #[strV (((bs s).take s.size).drop g)] 9)).out.grown hgrow (by have := hn.size; simp; omega) (fun b hb => (hown.lt b hb).1)
        have R := HP.out.stop hown' hN
        clear hown' hgrow hN hown
        go_wp2_with fail
        go_ret
        exact ⟨v', rfl, R⟩

end Go.Proofs.YtkbdmdnahphkkaaGreatDoor
