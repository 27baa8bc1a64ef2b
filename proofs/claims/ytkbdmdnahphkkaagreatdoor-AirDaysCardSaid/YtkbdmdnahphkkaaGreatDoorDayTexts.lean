/-
  Texts of the program: the texts of a country's rows on a day, in order. Condition: the texts are in memory.
-/
import Derived.Test.YtkbdmdnahphkkaaGreatDoorTabOf
import Derived.Test.YtkbdmdnahphkkaaGreatDoorTabTurn
import Derived.Test.YtkbdmdnahphkkaaGreatDoorTabKeys
import Derived.Sort.OwnSorted
import Derived.Test.YtkbdmdnahphkkaaGreatDoorTabFits
import Derived.Test.YtkbdmdnahphkkaaGreatDoorShelf
namespace Go.Proofs.YtkbdmdnahphkkaaGreatDoor
open Go.RowKit Go.Sort
/-- Does a row tell a prefix of a country on a day? -/
def tellB (cy d : Int) (r : Rw) : Bool := !r.whole && (decide (r.country = cy) && forceB d r)
def tellV (l : List Rw) (cy d : Int) : List Bytes := (l.filter (tellB cy d)).map (fun r => r.text)
theorem tell_in {l : List Rw} {cy d : Int} {k : Nat} {r : Rw} (h : l[k]? = some r) (hf : tellB cy d r = true) : tellV (l.take (k + 1)) cy d = tellV (l.take k) cy d ++ [r.text] := by
  unfold tellV
  rw [List.take_add_one, h, Option.toList_some, List.filter_append, List.map_append]
  simp [hf]
theorem tell_out {l : List Rw} {cy d : Int} {k : Nat} {r : Rw} (h : l[k]? = some r) (hf : tellB cy d r = false) : tellV (l.take (k + 1)) cy d = tellV (l.take k) cy d := by
  unfold tellV
  rw [List.take_add_one, h, Option.toList_some, List.filter_append, List.map_append]
  simp [hf]
theorem tell_len (l : List Rw) (cy d : Int) : (tellV l cy d).length ≤ l.length := by
  unfold tellV
  rw [List.length_map]
  exact List.length_filter_le _ _
/-- What Texts tells: an error, or none; and the texts. -/
def textsE (l : List Rw) (cy d : Int) : Int := if tabB l = false then 12 else if (withinB d 0 99999 && withinB cy 1 65535) = false then 1 else 0
def textsV (l : List Rw) (cy d : Int) : List Bytes := if textsE l cy d = 0 then sortT (tellV l cy d) else []
theorem within_day {l : List Rw} {cy d : Int} (ht : tabB l = true) (hd : withinB d 0 99999 = false) : textsE l cy d = 1 := by
  unfold textsE
  rw [if_neg (by simp [ht]), hd]
  rfl
theorem within_cy {l : List Rw} {cy d : Int} (ht : tabB l = true) (hd : withinB cy 1 65535 = false) : textsE l cy d = 1 := by
  unfold textsE
  rw [if_neg (by simp [ht]), hd, Bool.and_false]
  rfl
theorem texts_tab {l : List Rw} {cy d : Int} (ht : tabB l = false) : textsE l cy d = 12 := by
  unfold textsE
  rw [if_pos ht]
theorem texts_ok {l : List Rw} {cy d : Int} (ht : tabB l = true) (hd : withinB d 0 99999 = true) (hc : withinB cy 1 65535 = true) : textsE l cy d = 0 := by
  unfold textsE
  rw [if_neg (by simp [ht]), hd, hc]
  rfl
theorem texts_bad {l : List Rw} {cy d x : Int} (h : textsE l cy d = x) (h0 : ¬ x = 0) : textsV l cy d = [] := by
  unfold textsV
  rw [h, if_neg h0]
theorem texts_is {l : List Rw} {cy d : Int} (h : textsE l cy d = 0) : textsV l cy d = sortT (tellV l cy d) := by
  unfold textsV
  rw [if_pos h]
theorem StrsAt.nil (w : World) : StrsAt w [] (.slice none 0 0) w := ⟨World.ownsRow_nil _ _ _ _, New.refl w⟩
theorem sortT_len (l : List Bytes) : (sortT l).length = l.length := List.length_mergeSort _
set_option maxHeartbeats 4000000 in
theorem air_Texts (A : Option Addr) (n c : Nat) (l : List Rw) (cy d : Int) (w : World) (hl : RowsAt w A n l) (hn : n ≤ 9223372036854775807) (ht : TextsIn l) :
    Calls Tryz.prog 19 #[.slice A n c, .int .i64 cy, .int .i64 d] w fun e w' => ∃ v, e = .returned (.tuple #[v, .int .i64 (textsE l cy d)]) ∧ StrsAt w (textsV l cy d) v w' := by
  obtain ⟨i0, hi, hz0, hz1, hz2⟩ := info_parts info_str
  have HL := Lib.hid hl
  have HLN := Lib.hid hl.1
  clear hl
  go_enter Tryz.func19, Tryz.ntmps19
  go_wp2_with fail
  refine (air_ValidTable A n c l w HL.out hn ht).mono ?_
  rintro e w1 ⟨rfl, h1⟩
  have HN1 := Lib.hid h1
  clear h1
  cases hv : tabB l with
  | false =>
    have HE := Lib.hid (texts_tab (cy := cy) (d := d) hv)
    have HV := Lib.hid (texts_bad HE.out (by decide))
    clear hv
    go_wp2_with fail
    go_ret2
    exact ⟨.slice none 0 0, by rw [HE.out]; rfl, by rw [HV.out]; exact (StrsAt.nil w).keep HN1.out⟩
  | true =>
    have HV := Lib.hid hv
    clear hv
    go_wp2_with fail
    refine (air_validDay d _).mono ?_
    rintro e w2 ⟨rfl, rfl⟩
    cases hd : withinB d 0 99999 with
    | false =>
      have HE := Lib.hid (within_day (cy := cy) HV.out hd)
      have HVV := Lib.hid (texts_bad HE.out (by decide))
      clear hd
      go_wp2_with fail
      go_ret2
      exact ⟨.slice none 0 0, by rw [HE.out]; rfl, by rw [HVV.out]; exact (StrsAt.nil w).keep HN1.out⟩
    | true =>
      have HD := Lib.hid hd
      clear hd
      go_wp2_with fail
      refine (air_within cy 1 65535 _).mono ?_
      rintro e w2 ⟨rfl, rfl⟩
      cases hcy : withinB cy 1 65535 with
      | false =>
        have HE := Lib.hid (within_cy (d := d) HV.out hcy)
        have HVV := Lib.hid (texts_bad HE.out (by decide))
        clear hcy
        go_wp2_with fail
        go_ret2
        exact ⟨.slice none 0 0, by rw [HE.out]; rfl, by rw [HVV.out]; exact (StrsAt.nil w).keep HN1.out⟩
      | true =>
        have HE := Lib.hid (texts_ok HV.out HD.out hcy)
        have HVV := Lib.hid (texts_is HE.out)
        have h4 : n ≤ 400 := by have := rowsB_len (tabB_out HV.out).1; rw [HLN.out] at this; exact this
        clear hcy
        go_wp2_with fail
        go_loopw [8, 24] (fun v x wr => ∃ k : Nat, k ≤ n ∧ x = .int .i64 k ∧ StrsAt w (tellV (l.take k) cy d) v wr) (fun _ x _ => n - (intOf x).toNat)
        case atStart => exact ⟨0, by omega, rfl, (StrsAt.nil w).keep HN1.out⟩
        case round =>
          obtain ⟨k, hk, rfl, hst⟩ := hrel
          have HST := Lib.hid hst
          by_cases hlt : k < n
          · obtain ⟨bb, off, r, rfl, hr, -, hrow⟩ := HL.out.row hst.2 hlt
            obtain ⟨rt, rcy, rz, rco, rf, rl, rwh⟩ := r
            obtain ⟨c0, c1, c2, c3, c4, c5, c6⟩ := hrow
            dsimp only at c0 c1 c2 c3 c4 c5 c6
            have HT := Lib.hid hr
            have htl : (tellV (l.take k) cy d).length ≤ k := Nat.le_trans (tell_len _ _ _) (by rw [List.length_take]; omega)
            have hns := hst.2.size
            have hown := hst.1
            clear hr hst
            cases rwh with
            | true =>
              have HF := Lib.hid (tell_out HT.out (cy := cy) (d := d) rfl)
              go_wp2_with fail
              exact ⟨⟨k + 1, by omega, rfl, by rw [HF.out]; exact HST.out.keep ((New.refl wr).alloc _)⟩, by simp [intOf]; omega⟩
            | false =>
              by_cases hcy2 : rcy = cy
              · subst hcy2
                have c7 := c1
                go_wp2_with fail
                have HK := Lib.hid ((New.refl wr).alloc (.cells #[.string (B rt), .int .i64 rcy, .int .i64 rz, .int .i64 rco, .int .i64 rf, .int .i64 rl, .bool false] 49))
                refine (air_inForce ⟨rt, rcy, rz, rco, rf, rl, false⟩ d _).mono ?_
                rintro e w3 ⟨rfl, h3⟩
                cases hfo : forceB d ⟨rt, rcy, rz, rco, rf, rl, false⟩ with
                | false =>
                  have HF := Lib.hid (tell_out HT.out (cy := rcy) (d := d) (by unfold tellB; rw [hfo]; simp))
                  clear hfo
                  go_wp2_with fail
                  exact ⟨⟨k + 1, by omega, rfl, by rw [HF.out]; exact HST.out.keep (HK.out.trans h3)⟩, by simp [intOf]; omega⟩
                | true =>
                  have HF := Lib.hid (tell_in HT.out (cy := rcy) (d := d) (by unfold tellB; rw [hfo]; simp))
                  have HN3 := Lib.hid (HK.out.trans h3)
                  have hown3 := owns_keep hown HN3.out
                  have hns3 := HN3.out.size
                  obtain ⟨k0, -, -, -, -, -, -⟩ := RowIn.cells ((RowIn.new wr ⟨rt, rcy, rz, rco, rf, rl, false⟩).keep h3)
                  dsimp only at k0
                  clear hfo h3 hown c0 c1 c2 c3 c4 c5 c6 c7
                  go_wp2_with (at_builtin; refine wpList_append_own _ rfl (.tmp 42) (.tmp 45) 39 rfl w.heap.size 9 i0 (.string ⟨#[]⟩) 1 16 Tryz.underlying39 hi hz0 hz1 hz2 rfl (by decide) _ _ _ rfl (hown3.alloc _) ⟨w3.heap.size, 0, none⟩ 1 1 [strV rt] rfl rfl ?c1 ?c2 ?c3 ?c4 ?c5 ?_)
                  case c1 => exact one_str _ _
                  case c2 => exact one_cell _
                  case c3 => unfold maxLen; omega
                  case c4 => omega
                  case c5 => simp; omega
                  · intro v' w4 hown' hgrow _
                    have hN : New w w4 := ((HST.out.2.trans HN3.out).alloc (.cells #[strV rt] 9)).out.grown hgrow (by simp; omega) (fun b hb => (hown3.lt b hb).1)
                    have R : StrsAt w (tellV (l.take (k + 1)) rcy d) v' w4 := by
                      refine ⟨?_, hN⟩
                      rw [HF.out, List.length_append, List.map_append]
                      exact hown'
                    clear hown' hgrow hN hown3 k0
                    go_wp2_with fail
                    exact ⟨⟨k + 1, by omega, rfl, R⟩, by simp [intOf]; omega⟩
              · have HF := Lib.hid (tell_out HT.out (cy := cy) (d := d) (by unfold tellB; simp [hcy2]))
                go_wp2_with fail
                exact ⟨⟨k + 1, by omega, rfl, by rw [HF.out]; exact HST.out.keep ((New.refl wr).alloc _)⟩, by simp [intOf]; omega⟩
          · obtain rfl : k = n := by omega
            have HTK : Hid (tellV (l.take k) cy d = tellV l cy d) := Lib.hid (by rw [List.take_of_length_le (by rw [HLN.out]; omega)])
            rw [HTK.out] at hst
            have hlen := tell_len l cy d
            obtain ⟨hown, hN⟩ := hst
            obtain ⟨ss, hss⟩ : ∃ ss, tellV l cy d = ss := ⟨_, rfl⟩
            rw [hss] at hown HVV hlen
            have hsl : (sortT ss).length = ss.length := sortT_len ss
            have HNW := Lib.hid hN
            clear HST HTK hss
            rcases hown.2 with ⟨rfl, hz⟩ | ⟨g, cap, cur, rfl, hbase, hb, h1, h2, h3, h5⟩
            · have hs0 : ss = [] := List.eq_nil_of_length_eq_zero (by simpa using hz)
              subst hs0
              go_wp2_with fail
              refine (Tryz.slices_Sort_string_none none 0 wr).mono ?_
              rintro e w3 ⟨rfl, rfl⟩
              go_wp2_with fail
              go_ret2
              exact ⟨.slice none 0 0, by rw [HE.out]; rfl, by rw [HVV.out, show sortT [] = [] by simp [sortT]]; exact (StrsAt.nil w).keep HNW.out⟩
            · rw [Nat.mul_one] at h5
              have hh : Holds encStr wr g 0 ss.toArray := holds_of_block hb h5
              have hg : g < wr.heap.size := (Array.getElem?_eq_some_iff.1 hb).1
              have HB := Lib.hid hb
              have HH := Lib.hid hh
              have h400 : l.length ≤ 400 := by rw [HLN.out]; exact h4
              clear hown hb hh h5 hN
              go_wp2_with fail
              refine (Tryz.slices_Sort_string g 0 cap ss wr HH.out hg (by omega)).mono ?_
              rintro e w3 ⟨rfl, q, os, rfl⟩
              have HO := Lib.hid (ownsRow_sorted (w := wr) (n := q) (os := os) (ss := ss) (ts := sortT ss) hsl hbase HB.out h1 h2 h3)
              have HG := Lib.hid (grownBy_sorted (w := wr) (g := g) (n := q) (os := os) (sortT ss).toArray)
              generalize hW : grow (putRow encStr (Sort.ahead wr q) g 0 (sortT ss).toArray) os = W3 at *
              have hW' : grow (putRow encStr (Sort.ahead wr q) g 0 (ss.mergeSort fun x y => decide (x ≤ y)).toArray) os = W3 := hW
              rw [hW']
              clear hW hW'
              have hN3 : New w W3 := HNW.out.out.grown HG.out HNW.out.size (fun b hb => by cases hb; exact hbase)
              have R : StrsAt w (sortT ss) (.slice (some ⟨g, 0, none⟩) ss.length cap) W3 := ⟨by rw [hsl]; exact HO.out, hN3⟩
              clear HO HG hN3
              go_wp2_with fail
              go_ret2
              exact ⟨_, by rw [HE.out]; rfl, by rw [HVV.out]; exact R⟩

end Go.Proofs.YtkbdmdnahphkkaaGreatDoor
