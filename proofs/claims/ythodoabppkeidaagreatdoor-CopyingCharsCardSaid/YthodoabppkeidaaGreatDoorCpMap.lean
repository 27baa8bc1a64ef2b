/-
  strings.Map at a text of ASCII characters and a function that is asked of these alone. Condition: the function answers at each character of the text, by an ASCII character.
-/
import Derived.Test.YthodoabppkeidaaGreatDoorCpCode
import Derived.Deep.LoopGhost
import Derived.Shelf.Strings.MapAny
namespace Go.Proofs.YthodoabppkeidaaGreatDoor
open Go Go.RowKit Go.Shelf
theorem B_data (l : Bytes) : (B l).data.toList = l := by simp [B]
theorem B_at (l : Bytes) {i : Nat} (h : i < l.length) : (B l)[i]'(by rw [B_size]; exact h) = l[i] := by
  have h1 := bs_at (B l) i (by rw [B_size]; exact h)
  rw [← h1]
  congr 1
theorem B_extract (l : Bytes) (i j : Nat) : (B l).extract i j = B ((l.drop i).take (j - i)) := by
  apply bs_inj
  rw [bs_B]
  show ((B l).extract i j).data.toList = _
  rw [Lib.extract_data, B_data]
set_option maxHeartbeats 4000000 in
set_option maxRecDepth 1000000 in
theorem cp_Map (b : Nat) (f : UInt8 → UInt8) (l : Bytes) (w : World) (hl : l.length ≤ 1000) (hd : ∀ x ∈ l, x.toNat < 128 ∧ (f x).toNat < 128)
    (hf : ∀ W x, x ∈ l → Below w.heap.size w W → Calls Tryz.prog 84 #[.int .i32 x.toNat, .pointer (some ⟨b, 0, none⟩)] W fun e w' => e = .returned (.int .i32 (f x).toNat) ∧ W = w') :
    Calls Tryz.prog 83 #[.func (.func 84) #[] #[.pointer (some ⟨b, 0, none⟩)], .string (B l)] w fun e w' => e = .returned (.string (B (l.map f))) ∧ Below w.heap.size w w' := by
  obtain ⟨ANS, hANS⟩ : ∃ ANS, l.map f = ANS := ⟨_, rfl⟩
  rw [hANS]
  have HA := Lib.hid hANS
  have HF := Lib.hid hf
  have HDD := Lib.hid hd
  clear hANS hf hd
  have hsz : (B l).size = l.length := B_size l
  have HSZ := Lib.hid hsz
  go_enter Tryz.func83, Tryz.ntmps83
  go_wp2
  go_loopg [1] l.length (fun gk s1 wx => s1 = .string (B l) ∧ ∃ pos : Nat, wx.heap[w.heap.size]? = some (.cells #[.pointer none, .slice none 0 0] 152 (0, 0)) ∧ wx.heap[w.heap.size + 1]? = some (.stringIter (B l) pos) ∧ Below w.heap.size w wx ∧
    l.take pos ++ (l.drop pos).map f = ANS ∧ l.length ≤ pos + gk ∧ pos ≤ l.length)
  case atStart =>
    refine ⟨rfl, 0, ?_, ?_, ((Below.refl _ w).alloc (Nat.le_refl _) _).alloc (by simp) _, by simpa using HA.out, by omega, by omega⟩
    · have h1 := heap_alloc_new w (.cells #[.pointer none, .slice none 0 0] 152)
      exact (Below.heap_alloc _ _ _ (by simp)).trans h1
    · have := World.iter_heap (w.alloc (.cells #[.pointer none, .slice none 0 0] 152)) (B l) 0
      simpa using this
  case round =>
    obtain ⟨rfl, pos, hfr, hit, hbw, hsp, hfu, hps⟩ := hrel
    by_cases hlt : pos < l.length
    · obtain ⟨g', rfl⟩ : ∃ g', gk = g' + 1 := ⟨gk - 1, by omega⟩
      have hlt' : pos < (B l).size := by rw [B_size]; exact hlt
      obtain ⟨c1, c2⟩ := HDD.out (l[pos]'hlt) (List.getElem_mem hlt)
      have hat := B_at l hlt
      have hnx : ∀ ty, (Instr.next (.pointer (some ⟨w.heap.size + 1, 0, none⟩)) true ty).run Tryz.prog wr = _ := fun ty => Lib.run_next_ascii_at wr (w.heap.size + 1) (B l) pos ty hit hlt' (by rw [hat]; exact c1)
      simp only [hat] at hnx
      have hit2 := Lib.iterAt_heap wr (w.heap.size + 1) (B l) pos (pos + 1) hit
      have hbw2 := Lib.below_iterAt hbw (k := w.heap.size + 1) (by omega) (B l) (pos + 1)
      have hfr2 : (wr.iterAt (w.heap.size + 1) (B l) (pos + 1)).heap[w.heap.size]? = _ := (Lib.iterAt_other wr (w.heap.size + 1) w.heap.size (B l) (pos + 1) (by omega)).trans hfr
      obtain ⟨W, hWd⟩ : ∃ W, wr.iterAt (w.heap.size + 1) (B l) (pos + 1) = W := ⟨_, rfl⟩
      rw [hWd] at hnx hit2 hbw2 hfr2
      have cS := HF.out W (l[pos]'hlt) (List.getElem_mem hlt) hbw2
      have hdr : l.drop pos = l[pos]'hlt :: l.drop (pos + 1) := List.drop_eq_getElem_cons hlt
      have htk : l.take (pos + 1) = l.take pos ++ [l[pos]'hlt] := List.take_succ_eq_append_getElem hlt
      rw [hdr, List.map_cons] at hsp
      have HSP := Lib.hid hsp
      have HTK := Lib.hid htk
      have HCS := Lib.hid cS
      clear hit hbw hfr hWd hat hdr htk hsp cS hlt'
      generalize l[pos]'hlt = x at *
      have n1 : x.toNat ≠ 65533 := by omega
      have n2 : ¬ ((x.toNat : Int) = 65533) := by omega
      by_cases hc : f x = x
      · rw [hc] at HCS HSP
        go_wp2_with (go_at_call 84; refine HCS.out.mono ?_; rintro e W' ⟨rfl, rfl⟩)
        go_roundg g'
        case measure => omega
        case rel => exact ⟨rfl, pos + 1, hfr2, hit2, hbw2, by rw [HTK.out, List.append_assoc]; exact HSP.out, by omega, by omega⟩
      · have hcn : ¬ (((f x).toNat : Int) = (x.toNat : Int)) := fun h => hc (UInt8.toNat_inj.1 (by omega))
        have hrl : Lib.runeLen (x.toNat : Int) = 1 := by
          unfold Lib.runeLen
          rw [if_neg (by omega), if_pos (by omega)]
        go_wp2_with (first | (go_at_call 84; refine HCS.out.mono ?_; rintro e W' ⟨rfl, rfl⟩) | (go_at_call 108; refine (Tryz.utf8_RuneLen _ _).mono ?_; rintro e W' ⟨rfl, rfl⟩; rw [hrl]))
        have cG := Tryz.Builder_Grow_fresh w.heap.size w.heap.size (l.length + 4) W' (Nat.le_refl _) hfr2 hbw2.size (by omega)
        rw [show ((l.length + 4 : Nat) : Int) = (l.length : Int) + 4 by omega] at cG
        refine cG.mono ?_
        rintro e W4 ⟨rfl, h4, b4⟩
        have HN4 := Lib.hid (hbw2.trans b4)
        clear cG hnx hit2 hfr2
        have i1 : (B l).extract 0 pos = B (l.take pos) := by rw [B_extract, List.drop_zero, Nat.sub_zero]
        go_wp2_with fail
        have hxs : (B (l.take pos)).size = pos := by rw [B_size, List.length_take]; omega
        refine (Any.Builder_WriteString_k { Tryz.lays230 with } Tryz.Builder_Extra_230 w.heap.size w.heap.size [] (B (l.take pos)) W4 (Lib.IsBuilderF.of (Or.inr h4)) (by rw [hxs]; simp; omega) HN4.out.size).mono ?_
        rintro e W5 ⟨rfl, h5w, b5, -⟩
        have HN5 := Lib.hid (HN4.out.trans b5)
        have hl5 : ([] ++ Lib.strCells (B (l.take pos))).length = pos := by simp [Lib.strCells_length, hxs]
        have hm0 : ¬ (((f x).toNat : Int) < 0) := by omega
        go_wp2_with fail
        refine (Any.Builder_WriteRune_k { Tryz.lays230 with } Tryz.Builder_Extra_230 w.heap.size w.heap.size _ ((f x).toNat : Int) (by omega) (by omega) W5 (Or.inr h5w) (by rw [hl5]; omega) HN5.out.size).mono ?_
        rintro e W6 ⟨rfl, h6w, b6, -⟩
        have HN6 := Lib.hid (HN5.out.trans b6)
        have hcells : [] ++ Lib.strCells (B (l.take pos)) ++ Lib.runeCells ((f x).toNat : Int) = Lib.byteCells (l.take pos ++ [f x]) := by
          rw [List.nil_append, Lib.strCells_eq, B_data, Lib.byteCells_append]
          congr 1
          unfold Lib.runeCells Lib.byteCells
          rw [Lib.encodeRuneZ_one (by omega) (by omega)]
          rfl
        rw [hcells] at h6w
        obtain ⟨g6, cap6, hc6, hcap6⟩ : ∃ g6 cap6, W6.cell? ⟨w.heap.size, 1, none⟩ = some (.slice (some ⟨g6, 0, none⟩) (Lib.byteCells (l.take pos ++ [f x])).length cap6) ∧ 1 ≤ cap6 := by
          obtain ⟨_, v6, hv6, hown6, _⟩ := h6w
          have hln : 1 ≤ (Lib.byteCells (l.take pos ++ [f x])).length := by rw [Lib.byteCells_length, List.length_append]; simp
          rcases hown6.2 with ⟨_, h0⟩ | ⟨g6, cap6, _, _, rfl, _, _, _, hnc, _⟩
          · omega
          · exact ⟨g6, cap6, by rw [Lib.cell_of_heap hv6]; rfl, by omega⟩
        have hcapz : ¬ ((cap6 : Int) = 0) := by omega
        have hcapb : ((cap6 : Int) == 0) = false := by simp; omega
        have i2 : (B l).extract (pos + 1) l.length = B (l.drop (pos + 1)) := by
          rw [B_extract, List.take_of_length_le (by rw [List.length_drop]; omega)]
        have hpk : ((pos : Int) + 1).toNat = pos + 1 := by omega
        go_wp2_with fail
        refine (Tryz.Builder_Cap_cell w.heap.size _ _ cap6 W6 hc6).mono ?_
        rintro e W6' ⟨rfl, rfl⟩
        have HMEM : Hid (∀ y ∈ l.drop (pos + 1), y ∈ l) := Lib.hid (fun y hy => List.mem_of_mem_drop hy)
        have hl2 : (l.drop (pos + 1)).length ≤ 1000 := by rw [List.length_drop]; omega
        have hacc0 : (l.take pos ++ [f x]).length ≤ 1000 := by simp; omega
        have HSP2 : Hid ((l.take pos ++ [f x]) ++ (l.drop (pos + 1)).map f = ANS) := Lib.hid (by rw [List.append_assoc]; exact HSP.out)
        have h6 := Lib.hid h6w
        clear h6w hc6 hcells hl5 h5w h4 i1 i2 hpk HSP HTK hxs
        generalize l.drop (pos + 1) = l2 at *
        generalize l.take pos ++ [f x] = acc0 at *
        have hs2 : (B l2).size = l2.length := B_size l2
        go_wp2_with fail
        go_loopg [] l2.length (fun gk wx => ∃ (p2 : Nat) (acc : List UInt8), Lib.IsBuilderF 152 5 w.heap.size w.heap.size (Lib.byteCells acc) wx ∧ wx.heap[W6'.heap.size]? = some (.stringIter (B l2) p2) ∧ Below w.heap.size w wx ∧
          acc ++ (l2.drop p2).map f = ANS ∧ l2.length ≤ p2 + gk ∧ p2 ≤ l2.length ∧ acc.length ≤ 1000 + p2)
        case atStart =>
          exact ⟨0, acc0, Lib.IsBuilderF.alloc (Or.inr h6.out) _, World.iter_heap W6' (B l2) 0, HN6.out.alloc HN6.out.size _, by rw [List.drop_zero]; exact HSP2.out, by omega, by omega, by omega⟩
        case round =>
          obtain ⟨p2, acc, hI, hit, hbw, hacc, hfu2, hp2, hal⟩ := hrel
          have hszI : W6'.heap.size < wr.heap.size := (Array.getElem?_eq_some_iff.1 hit).1
          have hBI : w.heap.size ≤ W6'.heap.size := HN6.out.size
          by_cases hlt2 : p2 < l2.length
          · obtain ⟨g2, rfl⟩ : ∃ g2, gk = g2 + 1 := ⟨gk - 1, by omega⟩
            have hlt' : p2 < (B l2).size := by rw [B_size]; exact hlt2
            have hmem : (l2[p2]'hlt2) ∈ l := HMEM.out _ (List.getElem_mem hlt2)
            obtain ⟨d1, d2⟩ := HDD.out _ hmem
            have hat := B_at l2 hlt2
            have hnx : ∀ ty, (Instr.next (.pointer (some ⟨W6'.heap.size, 0, none⟩)) true ty).run Tryz.prog wr = _ := fun ty => Lib.run_next_ascii_at wr W6'.heap.size (B l2) p2 ty hit hlt' (by rw [hat]; exact d1)
            simp only [hat] at hnx
            have hI2 := hI.iterAt hit (p2 + 1)
            have hit2 := Lib.iterAt_heap wr W6'.heap.size (B l2) p2 (p2 + 1) hit
            have hbw2 := Lib.below_iterAt hbw (k := W6'.heap.size) hBI (B l2) (p2 + 1)
            have hsz2 : w.heap.size ≤ (wr.iterAt W6'.heap.size (B l2) (p2 + 1)).heap.size := by rw [Lib.iterAt_size]; omega
            obtain ⟨Wa, hWa⟩ : ∃ Wa, wr.iterAt W6'.heap.size (B l2) (p2 + 1) = Wa := ⟨_, rfl⟩
            rw [hWa] at hnx hI2 hit2 hbw2 hsz2
            have cS2 := HF.out Wa _ hmem hbw2
            have hdr : l2.drop p2 = l2[p2]'hlt2 :: l2.drop (p2 + 1) := List.drop_eq_getElem_cons hlt2
            rw [hdr, List.map_cons] at hacc
            have HACC := Lib.hid hacc
            have HCS2 := Lib.hid cS2
            have HI2 := Lib.hid hI2
            clear hit hbw hI hWa hdr hat hacc cS2 hI2 hmem
            generalize l2[p2]'hlt2 = y at *
            have e0 : ¬ (((f y).toNat : Int) < 0) := by omega
            have e1 : (((f y).toNat : Int) < 128) := by omega
            go_wp2_with (go_at_call 84; refine HCS2.out.mono ?_; rintro e W' ⟨rfl, rfl⟩)
            refine (Any.Builder_WriteByte_k { Tryz.lays230 with } Tryz.Builder_Extra_230 w.heap.size w.heap.size _ ((f y).toNat : Int) _ HI2.out (by rw [Lib.byteCells_length]; omega) hsz2).mono ?_
            rintro e W7 ⟨rfl, h7, b7, k7⟩
            have H7 := Lib.hid h7
            have HN7 := Lib.hid (Below.trans hbw2 b7)
            have HIT := Lib.hid (k7.iter hit2 (by have := h6.out.lt; omega))
            clear h7 b7 k7 hit2 hnx
            go_wp2_with fail
            go_roundg g2
            case measure => omega
            case rel =>
              refine ⟨p2 + 1, acc ++ [f y], Or.inr ?_, HIT.out, HN7.out, by rw [List.append_assoc]; exact HACC.out, by omega, by omega, by rw [List.length_append, List.length_singleton]; omega⟩
              rw [Lib.byteCells_append]
              exact H7.out
          · obtain rfl : p2 = l2.length := by omega
            have hlt' : ¬ l2.length < (B l2).size := by rw [B_size]; omega
            have hnx : ∀ ty, (Instr.next (.pointer (some ⟨W6'.heap.size, 0, none⟩)) true ty).run Tryz.prog wr = _ := fun ty => Lib.run_next_end_at wr W6'.heap.size (B l2) l2.length ty hit hlt'
            rw [List.drop_length, List.map_nil, List.append_nil] at hacc
            have HACC := Lib.hid hacc
            have HI := Lib.hid hI
            have HBW := Lib.hid hbw
            clear hacc hI hbw hit hlt'
            go_wp2_with fail
            refine (Tryz.Builder_String_any_f w.heap.size w.heap.size acc wr HI.out (by omega)).mono ?_
            rintro e W8 ⟨rfl, _, b8⟩
            go_wp2_with fail
            go_ret
            refine ⟨?_, HBW.out.trans b8⟩
            rw [← HACC.out]
            rfl
    · obtain rfl : pos = l.length := by omega
      have hlt' : ¬ l.length < (B l).size := by rw [B_size]; omega
      have hnx : ∀ ty, (Instr.next (.pointer (some ⟨w.heap.size + 1, 0, none⟩)) true ty).run Tryz.prog wr = _ := fun ty => Lib.run_next_end_at wr (w.heap.size + 1) (B l) l.length ty hit hlt'
      have cC := Tryz.Builder_Cap_cell w.heap.size none 0 0 wr (by rw [Lib.cell_of_heap hfr]; rfl)
      rw [List.drop_length, List.map_nil, List.append_nil, List.take_length] at hsp
      have HSP := Lib.hid hsp
      have HBW := Lib.hid hbw
      clear hsp hbw hit hlt' hfr
      go_wp2_with fail
      refine cC.mono ?_
      rintro e W' ⟨rfl, rfl⟩
      go_wp2_with fail
      go_ret
      exact ⟨by rw [HSP.out]; rfl, HBW.out⟩
end Go.Proofs.YthodoabppkeidaaGreatDoor
