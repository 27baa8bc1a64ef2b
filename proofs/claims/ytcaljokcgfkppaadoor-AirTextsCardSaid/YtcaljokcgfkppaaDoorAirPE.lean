/-
  PrintExchange of the program, for all layouts and exchanges, in a world that has the library's table of powers of ten.
-/
import Derived.Test.YtcaljokcgfkppaaDoorAirEx
import Derived.Shelf.Strings.BuilderK
import Derived.Lib.OthersKept
import Derived.Deep.RegionWith
namespace Go.Proofs.YtcaljokcgfkppaaDoor
open Go.RowKit
/-- A builder b of a call that began at w0 holds the bytes l; all other blocks of W that are no rows of bytes stand as they stood. -/
def BuiltK (w0 : World) (b : Nat) (W : World) (l : Bytes) (w : World) : Prop := Built w0 b l w ∧ Lib.OthersKept 5 (some b) W w
theorem kept_new {b : Option Nat} {w w' : World} (k : New w w') : Lib.OthersKept 5 b w w' := fun _ _ h _ _ => heap_keep k h
theorem BuiltK.keep {w0 W w w' : World} {b : Nat} {l : Bytes} (h : BuiltK w0 b W l w) (k : New w w') : BuiltK w0 b W l w' := ⟨h.1.keep k, h.2.trans (kept_new k)⟩
theorem BuiltK.on {w0 W W2 w : World} {b : Nat} {l : Bytes} (h : BuiltK w0 b W2 l w) (k : Lib.OthersKept 5 (some b) W W2) : BuiltK w0 b W l w := ⟨h.1, k.trans h.2⟩
theorem BuiltK.from {w0 W w : World} {b : Nat} {l : Bytes} (h : BuiltK w0 b W l w) : BuiltK w0 b w l w := ⟨h.1, Lib.OthersKept.refl _ _ _⟩
theorem writeK {b : Nat} {l x : Bytes} {w0 W w : World} (h : BuiltK w0 b W l w) (hlen : l.length + x.length ≤ 140737488355328) :
    Calls Tryd.prog 51 #[.pointer (some ⟨b, 0, none⟩), .string (B x)] w fun e w' => e = .returned (.tuple #[.int .i64 x.length, .nilIface]) ∧ BuiltK w0 b W (l ++ x) w' ∧ Lib.OthersKept 5 (some b) w w' := by
  refine (Any.Builder_WriteString_k { Tryd.lays105 with } Tryd.Builder_Extra_105 w0.heap.size b (Lib.byteCells l) (B x) w h.1.1 (by simp [Lib.byteCells, B_size]; omega) h.1.2.size).mono ?_
  rintro e w' ⟨rfl, h1, h2, h3⟩
  rw [str_cells, ← byte_cells_append] at h1
  exact ⟨by rw [B_size], ⟨⟨Or.inr h1, Below.trans h.1.2 h2⟩, h.2.trans h3⟩, h3⟩
theorem readK' {b : Nat} {l : Bytes} {w0 W w : World} (h : BuiltK w0 b W l w) :
    Calls Tryd.prog 52 #[.pointer (some ⟨b, 0, none⟩)] w fun e w' => e = .returned (.string (B l)) ∧ New w0 w' := by
  refine (Tryd.Builder_String_any_f w0.heap.size b l w h.1.1 h.1.2.size).mono ?_
  rintro e w' ⟨rfl, h1, h2⟩
  exact ⟨rfl, Below.trans h.1.2 h2⟩
theorem lenK {b : Nat} {l : Bytes} {w0 W w : World} (h : BuiltK w0 b W l w) :
    Calls Tryd.prog 57 #[.pointer (some ⟨b, 0, none⟩)] w fun e w' => e = .returned (.int .i64 l.length) ∧ w = w' := by
  refine (Tryd.Builder_Len_f w0.heap.size b (Lib.byteCells l) w h.1.1).mono ?_
  rintro e w' ⟨rfl, rfl⟩
  exact ⟨by simp [Lib.byteCells], rfl⟩
theorem builder_lt {T e : TypeId} {A b : Nat} {l : List Value} {w : World} (h : Lib.IsBuilderF T e A b l w) : b < w.heap.size := by
  rcases h with h | h
  all_goals
    obtain ⟨_, v, hb, _⟩ := h
    exact (Array.getElem?_eq_some_iff.1 hb).1
/-- The text behind the first k parts. -/
def textTo (k : Nat) (r s z : Bool) (a b c : Nat) : Bytes :=
  match k with
  | 0 => []
  | 1 => addW [] r a 1
  | 2 => addW (addW [] r a 1) s b 3
  | _ => exW r s z a b c
theorem bd_ok {m n : Nat} (h1 : m ≤ 100) (h2 : n ≤ 5) : m + n ≤ 140737488355328 := by omega
theorem addW_len {cur : Bytes} {h : Bool} {n d : Nat} {m : Nat} (hc : cur.length ≤ m) (hn : n ≤ 99999) (hd : d ≤ 5) (h1 : 1 ≤ d) : (addW cur h n d).length ≤ m + 6 := by
  have p := padL_len 5 n d h1 (by omega) hd
  unfold addW
  split
  · split
    · omega
    · simp only [List.length_append, List.length_cons]; omega
  · omega
theorem textTo_len (k : Nat) (r s z : Bool) (a b c : Nat) (ha : a ≤ 99999) (hb : b ≤ 99999) (hc : c ≤ 99999) : (textTo k r s z a b c).length ≤ 18 := by
  have g1 : (addW [] r a 1).length ≤ 6 := addW_len (m := 0) (by simp) ha (by omega) (by omega)
  have g2 : (addW (addW [] r a 1) s b 3).length ≤ 12 := addW_len g1 hb (by omega) (by omega)
  have g3 : (addW (addW (addW [] r a 1) s b 3) z c 2).length ≤ 18 := addW_len g2 hc (by omega) (by omega)
  unfold textTo
  split
  · simp
  · omega
  · omega
  · exact g3
def Part3 (w : World) (g : Nat) (h : Bool) (m d : Int) : Prop := w.heap[g]? = some (.cells #[.bool h, .int .i64 m, .int .i64 d] 87 (0, 0))
theorem Part3.cells {w : World} {g : Nat} {h : Bool} {m d : Int} (hp : Part3 w g h m d) : w.cell? ⟨g, 0, none⟩ = some (.bool h) ∧ w.cell? ⟨g, 1, none⟩ = some (.int .i64 m) ∧ w.cell? ⟨g, 2, none⟩ = some (.int .i64 d) := by
  unfold Part3 at hp
  refine ⟨?_, ?_, ?_⟩
  · rw [cell_of_row _ _ 0 _ _ _ hp]; rfl
  · rw [cell_of_row _ _ 1 _ _ _ hp]; rfl
  · rw [cell_of_row _ _ 2 _ _ _ hp]; rfl
theorem Part3.kept {w w' : World} {g b : Nat} {h : Bool} {m d : Int} (hp : Part3 w g h m d) (k : Lib.OthersKept 5 (some b) w w') (hne : g ≠ b) : Part3 w' g h m d :=
  k g _ hp (fun e => hne (Option.some.inj e)) (fun c fz e => by cases e)
theorem Num3.kept {w w' : World} {g b : Nat} {x y t : Int} (hp : Num3 w g x y t) (k : Lib.OthersKept 5 (some b) w w') (hne : g ≠ b) : Num3 w' g x y t :=
  k g _ hp (fun e => hne (Option.some.inj e)) (fun c fz e => by cases e)
theorem Num3.lt {w : World} {g : Nat} {x y t : Int} (h : Num3 w g x y t) : g < w.heap.size := (Array.getElem?_eq_some_iff.1 h).1
set_option maxHeartbeats 8000000 in
theorem air_PE_go (r s z : Bool) (a b c : Nat) (w : World) (hpow : HasPow w) (hv : validX r s z a b c = true) :
    Calls Tryd.prog 30 #[layV r s z, exV a b c] w fun e w' => e = .returned (.tuple #[.string (B (exL r s z a b c)), .int .i64 0]) ∧ New w w' := by
  have hnum := valid_nums hv
  have b1 : a ≤ 99999 := by omega
  have b2 : b ≤ 99999 := by omega
  have b3 : c ≤ 99999 := by omega
  have HV := Lib.hid hv
  have HPW := Lib.hid hpow
  clear hnum hv hpow
  have HN := Lib.hid (((New.refl w).alloc (.cells #[.bool r, .bool s, .bool z] 43)).alloc (.cells #[.int .i64 a, .int .i64 b, .int .i64 c] 45))
  have HX := Lib.hid (ExAt.new w r s z a b c)
  unfold layV exV
  go_enter Tryd.func30, Tryd.ntmps30
  go_wp2_with fail
  refine (air_ValidExchange r s z a b c _).mono ?_
  rintro e w1 ⟨rfl, h1⟩
  rw [HV.out]
  replace HX := Lib.hid (HX.out.keep h1)
  replace HN := Lib.hid (HN.out.trans h1)
  replace HPW := Lib.hid (HPW.out.keep HN.out)
  clear h1
  have HB := Lib.hid (Built.new w1)
  have hA := (New.refl w1).alloc (.cells #[.pointer none, .slice none 0 0] 78)
  have HXA := HX.out.keep hA
  obtain ⟨c0, c1, c2, c3, c4, c5⟩ := HXA.cells
  clear hA HXA
  go_wp2_with fail
  refine (air_numbersOf a b c _).mono ?_
  rintro e w2 ⟨rfl, h2⟩
  clear c0 c1 c2 c3 c4 c5
  have HB2 := Lib.hid (HB.out.keep h2)
  have hA := (New.refl w1).alloc (.cells #[.pointer none, .slice none 0 0] 78)
  have hA2 := hA.trans h2
  have hbg := h2.size
  have HX2 := HX.out.keep hA2
  obtain ⟨c0, c1, c2, c3, c4, c5⟩ := HX2.cells
  have d0 := fun o => cell_alloc c0 o
  have d1 := fun o => cell_alloc c1 o
  have d2 := fun o => cell_alloc c2 o
  clear c0 c1 c2 c3 c4 c5 HX2 HB h2 hA
  have HM : Hid (Num3 (w2.alloc (.cells #[.int .i64 a, .int .i64 b, .int .i64 c] 84)) w2.heap.size a b c) := Lib.hid (heap_alloc_new w2 _)
  have HB3 := Lib.hid (HB2.out.keep ((New.refl w2).alloc (.cells #[.int .i64 a, .int .i64 b, .int .i64 c] 84)))
  have HA3 := Lib.hid (hA2.alloc (.cells #[.int .i64 a, .int .i64 b, .int .i64 c] 84))
  clear hA2
  have hbg2 : w1.heap.size < w2.heap.size := by simp at hbg; omega
  clear hbg
  go_wp2_with fail
  refine (air_partsOf r s z _).mono ?_
  rintro e w3 ⟨rfl, h3⟩
  clear d0 d1 d2
  have HBK : Hid (BuiltK w1 w1.heap.size w3 [] w3) := Lib.hid ⟨HB3.out.keep h3, Lib.OthersKept.refl _ _ _⟩
  replace HM := Lib.hid (HM.out.keep h3)
  clear h3 HA3 HB3 HB2
  have hp0 := part0 r s z
  have hp1 := part1 r s z
  have hp2 := part2 r s z
  have HP0 := Lib.hid hp0
  have HP1 := Lib.hid hp1
  have HP2 := Lib.hid hp2
  clear hp0 hp1 hp2
  generalize partsA r s z = PA at *
  have HG1 : Hid (w2.heap.size ≠ w1.heap.size) := Lib.hid (by omega)
  have HGL : Hid (w1.heap.size < w3.heap.size) := Lib.hid (Nat.lt_trans hbg2 HM.out.lt)
  clear hbg2
  generalize w2.heap.size = g5 at *
  have HBB := Lib.hid (rfl : w1.heap.size = w1.heap.size)
  obtain ⟨gb, hgb⟩ : ∃ gb, w1.heap.size = gb := ⟨_, rfl⟩
  have HGB := Lib.hid hgb
  rw [hgb] at HBK HG1 HGL ⊢
  clear hgb HBB
  go_wp2_with fail
  go_loopw [18] (fun x wr => ∃ k : Nat, k ≤ 3 ∧ x = .int .i64 k ∧ BuiltK w1 gb w3 (textTo k r s z a b c) wr) (fun x _ => 3 - (intOf x).toNat)
  case atStart => exact ⟨0, by omega, rfl, HBK.out⟩
  case round =>
    obtain ⟨k, hk, rfl, hb⟩ := hrel
    have HK := Lib.hid hb
    have hlen := textTo_len k r s z a b c b1 b2 b3
    clear hb
    have hk4 : k = 0 ∨ k = 1 ∨ k = 2 ∨ k = 3 := by omega
    rcases hk4 with rfl | rfl | rfl | rfl
    · have hpk := HP0.out
      have HC : Hid (textTo 1 r s z a b c = addW (textTo 0 r s z a b c) r a 1) := Lib.hid rfl
      obtain ⟨cur, hcur⟩ : ∃ cur, textTo 0 r s z a b c = cur := ⟨_, rfl⟩
      rw [hcur] at HC HK hlen
      clear hcur
      cases hr : r with
      | false =>
        rw [hr] at hpk
        have ht : addW cur r a 1 = cur := by rw [hr]; rfl
        have HF := Lib.hid (HC.out.trans ht)
        clear ht
        go_wp2_with fail
        exact ⟨⟨1, by omega, rfl, by have h := HF.out; rw [hr] at h; rw [h]; exact HK.out.keep ((New.refl _).alloc _)⟩, by simp [intOf]⟩
      | true =>
        rw [hr] at hpk
        have HPP : Hid (Part3 (wr.alloc (.cells #[.bool true, .int .i64 599, .int .i64 1] 87)) wr.heap.size true 599 1) := Lib.hid (heap_alloc_new wr _)
        have HKA := Lib.hid (HK.out.keep ((New.refl wr).alloc (.cells #[.bool true, .int .i64 599, .int .i64 1] 87)))
        have HNE : Hid (wr.heap.size ≠ gb) := Lib.hid (by have := builder_lt HK.out.1.1; omega)
        go_wp2_with fail
        refine (lenK HKA.out).mono ?_
        rintro e w' ⟨rfl, rfl⟩
        by_cases hc0 : cur = []
        · have ht : addW cur r a 1 = padL a 1 := by
            rw [hr]
            unfold addW
            rw [if_pos rfl, if_pos hc0]
          have HF := Lib.hid (HC.out.trans ht)
          clear ht
          subst hc0
          have hm := (HM.out.kept HKA.out.2 HG1.out).cells
          obtain ⟨m0, m1, m2⟩ := hm
          obtain ⟨q0, q1, q2⟩ := HPP.out.cells
          go_wp2_with fail
          have HPA := Lib.hid (HPW.out.keep HKA.out.1.2)
          have HBD : Hid (([] : Bytes).length + (padL a 1).length ≤ 140737488355328) := Lib.hid (bd_ok (by simp) (padL_len 5 a 1 (by omega) (by omega) (by omega)))
          go_region_with ((first | (go_at_call 58; refine (air_pad a 1 _ (HPA.out.keep ((New.refl _).drew)) (by omega) (by omega)).mono ?_; rintro e w5 ⟨rfl, h5⟩) | (go_at_call 51; refine (writeK ((HKA.out.keep ((New.refl _).drew)).keep h5) HBD.out).mono ?_; rintro e w6 ⟨rfl, h6, h7⟩)))
          all_goals
            clear h5 h7 m0 m1 m2 q0 q1 q2
            have H6 := Lib.hid h6
            clear h6
            go_wp2_with fail
            exact ⟨⟨1, by omega, rfl, by have h := HF.out; rw [hr] at h; rw [h]; exact H6.out⟩, by simp [intOf]⟩
        · have ht : addW cur r a 1 = (cur ++ [32]) ++ padL a 1 := by
            rw [hr]
            unfold addW
            rw [if_pos rfl, if_neg hc0]
            simp
          have HF := Lib.hid (HC.out.trans ht)
          clear ht
          have hpos : 0 < cur.length := List.length_pos_iff.2 hc0
          have HBD1 : Hid (cur.length + ([32] : Bytes).length ≤ 140737488355328) := Lib.hid (by simp; omega)
          have HBD : Hid ((cur ++ [32]).length + (padL a 1).length ≤ 140737488355328) := Lib.hid (bd_ok (by simp; omega) (padL_len 5 a 1 (by omega) (by omega) (by omega)))
          clear hc0
          go_wp2_with fail
          refine (writeK (x := [32]) HKA.out HBD1.out).mono ?_
          rintro e w4 ⟨rfl, h4, h4k⟩
          obtain ⟨m0, m1, m2⟩ := (HM.out.kept h4.2 HG1.out).cells
          obtain ⟨q0, q1, q2⟩ := (HPP.out.kept h4k HNE.out).cells
          have HK4 := Lib.hid h4
          have HPA := Lib.hid (HPW.out.keep h4.1.2)
          clear h4 h4k
          go_wp2_with fail
          go_region_with ((first | (go_at_call 58; refine (air_pad a 1 _ (HPA.out.keep ((New.refl _).drew)) (by omega) (by omega)).mono ?_; rintro e w5 ⟨rfl, h5⟩) | (go_at_call 51; refine (writeK ((HK4.out.keep ((New.refl _).drew)).keep h5) HBD.out).mono ?_; rintro e w6 ⟨rfl, h6, h7⟩)))
          all_goals
            clear h5 h7 m0 m1 m2 q0 q1 q2
            have H6 := Lib.hid h6
            clear h6
            go_wp2_with fail
            exact ⟨⟨1, by omega, rfl, by have h := HF.out; rw [hr] at h; rw [h]; exact H6.out⟩, by simp [intOf]⟩
    · have hpk := HP1.out
      have HC : Hid (textTo 2 r s z a b c = addW (textTo 1 r s z a b c) s b 3) := Lib.hid rfl
      obtain ⟨cur, hcur⟩ : ∃ cur, textTo 1 r s z a b c = cur := ⟨_, rfl⟩
      rw [hcur] at HC HK hlen
      clear hcur
      cases hs : s with
      | false =>
        rw [hs] at hpk
        have ht : addW cur s b 3 = cur := by rw [hs]; rfl
        have HF := Lib.hid (HC.out.trans ht)
        clear ht
        go_wp2_with fail
        exact ⟨⟨2, by omega, rfl, by have h := HF.out; rw [hs] at h; rw [h]; exact HK.out.keep ((New.refl _).alloc _)⟩, by simp [intOf]⟩
      | true =>
        rw [hs] at hpk
        have HPP : Hid (Part3 (wr.alloc (.cells #[.bool true, .int .i64 99999, .int .i64 3] 87)) wr.heap.size true 99999 3) := Lib.hid (heap_alloc_new wr _)
        have HKA := Lib.hid (HK.out.keep ((New.refl wr).alloc (.cells #[.bool true, .int .i64 99999, .int .i64 3] 87)))
        have HNE : Hid (wr.heap.size ≠ gb) := Lib.hid (by have := builder_lt HK.out.1.1; omega)
        go_wp2_with fail
        refine (lenK HKA.out).mono ?_
        rintro e w' ⟨rfl, rfl⟩
        by_cases hc0 : cur = []
        · have ht : addW cur s b 3 = padL b 3 := by
            rw [hs]
            unfold addW
            rw [if_pos rfl, if_pos hc0]
          have HF := Lib.hid (HC.out.trans ht)
          clear ht
          subst hc0
          have hm := (HM.out.kept HKA.out.2 HG1.out).cells
          obtain ⟨m0, m1, m2⟩ := hm
          obtain ⟨q0, q1, q2⟩ := HPP.out.cells
          go_wp2_with fail
          have HPA := Lib.hid (HPW.out.keep HKA.out.1.2)
          have HBD : Hid (([] : Bytes).length + (padL b 3).length ≤ 140737488355328) := Lib.hid (bd_ok (by simp) (padL_len 5 b 3 (by omega) (by omega) (by omega)))
          go_region_with ((first | (go_at_call 58; refine (air_pad b 3 _ (HPA.out.keep ((New.refl _).drew)) (by omega) (by omega)).mono ?_; rintro e w5 ⟨rfl, h5⟩) | (go_at_call 51; refine (writeK ((HKA.out.keep ((New.refl _).drew)).keep h5) HBD.out).mono ?_; rintro e w6 ⟨rfl, h6, h7⟩)))
          all_goals
            clear h5 h7 m0 m1 m2 q0 q1 q2
            have H6 := Lib.hid h6
            clear h6
            go_wp2_with fail
            exact ⟨⟨2, by omega, rfl, by have h := HF.out; rw [hs] at h; rw [h]; exact H6.out⟩, by simp [intOf]⟩
        · have ht : addW cur s b 3 = (cur ++ [32]) ++ padL b 3 := by
            rw [hs]
            unfold addW
            rw [if_pos rfl, if_neg hc0]
            simp
          have HF := Lib.hid (HC.out.trans ht)
          clear ht
          have hpos : 0 < cur.length := List.length_pos_iff.2 hc0
          have HBD1 : Hid (cur.length + ([32] : Bytes).length ≤ 140737488355328) := Lib.hid (by simp; omega)
          have HBD : Hid ((cur ++ [32]).length + (padL b 3).length ≤ 140737488355328) := Lib.hid (bd_ok (by simp; omega) (padL_len 5 b 3 (by omega) (by omega) (by omega)))
          clear hc0
          go_wp2_with fail
          refine (writeK (x := [32]) HKA.out HBD1.out).mono ?_
          rintro e w4 ⟨rfl, h4, h4k⟩
          obtain ⟨m0, m1, m2⟩ := (HM.out.kept h4.2 HG1.out).cells
          obtain ⟨q0, q1, q2⟩ := (HPP.out.kept h4k HNE.out).cells
          have HK4 := Lib.hid h4
          have HPA := Lib.hid (HPW.out.keep h4.1.2)
          clear h4 h4k
          go_wp2_with fail
          go_region_with ((first | (go_at_call 58; refine (air_pad b 3 _ (HPA.out.keep ((New.refl _).drew)) (by omega) (by omega)).mono ?_; rintro e w5 ⟨rfl, h5⟩) | (go_at_call 51; refine (writeK ((HK4.out.keep ((New.refl _).drew)).keep h5) HBD.out).mono ?_; rintro e w6 ⟨rfl, h6, h7⟩)))
          all_goals
            clear h5 h7 m0 m1 m2 q0 q1 q2
            have H6 := Lib.hid h6
            clear h6
            go_wp2_with fail
            exact ⟨⟨2, by omega, rfl, by have h := HF.out; rw [hs] at h; rw [h]; exact H6.out⟩, by simp [intOf]⟩
    · have hpk := HP2.out
      have HC : Hid (textTo 3 r s z a b c = addW (textTo 2 r s z a b c) z c 2) := Lib.hid rfl
      obtain ⟨cur, hcur⟩ : ∃ cur, textTo 2 r s z a b c = cur := ⟨_, rfl⟩
      rw [hcur] at HC HK hlen
      clear hcur
      cases hz : z with
      | false =>
        rw [hz] at hpk
        have ht : addW cur z c 2 = cur := by rw [hz]; rfl
        have HF := Lib.hid (HC.out.trans ht)
        clear ht
        go_wp2_with fail
        exact ⟨⟨3, by omega, rfl, by have h := HF.out; rw [hz] at h; rw [h]; exact HK.out.keep ((New.refl _).alloc _)⟩, by simp [intOf]⟩
      | true =>
        rw [hz] at hpk
        have HPP : Hid (Part3 (wr.alloc (.cells #[.bool true, .int .i64 99, .int .i64 2] 87)) wr.heap.size true 99 2) := Lib.hid (heap_alloc_new wr _)
        have HKA := Lib.hid (HK.out.keep ((New.refl wr).alloc (.cells #[.bool true, .int .i64 99, .int .i64 2] 87)))
        have HNE : Hid (wr.heap.size ≠ gb) := Lib.hid (by have := builder_lt HK.out.1.1; omega)
        go_wp2_with fail
        refine (lenK HKA.out).mono ?_
        rintro e w' ⟨rfl, rfl⟩
        by_cases hc0 : cur = []
        · have ht : addW cur z c 2 = padL c 2 := by
            rw [hz]
            unfold addW
            rw [if_pos rfl, if_pos hc0]
          have HF := Lib.hid (HC.out.trans ht)
          clear ht
          subst hc0
          have hm := (HM.out.kept HKA.out.2 HG1.out).cells
          obtain ⟨m0, m1, m2⟩ := hm
          obtain ⟨q0, q1, q2⟩ := HPP.out.cells
          go_wp2_with fail
          have HPA := Lib.hid (HPW.out.keep HKA.out.1.2)
          have HBD : Hid (([] : Bytes).length + (padL c 2).length ≤ 140737488355328) := Lib.hid (bd_ok (by simp) (padL_len 5 c 2 (by omega) (by omega) (by omega)))
          go_region_with ((first | (go_at_call 58; refine (air_pad c 2 _ (HPA.out.keep ((New.refl _).drew)) (by omega) (by omega)).mono ?_; rintro e w5 ⟨rfl, h5⟩) | (go_at_call 51; refine (writeK ((HKA.out.keep ((New.refl _).drew)).keep h5) HBD.out).mono ?_; rintro e w6 ⟨rfl, h6, h7⟩)))
          all_goals
            clear h5 h7 m0 m1 m2 q0 q1 q2
            have H6 := Lib.hid h6
            clear h6
            go_wp2_with fail
            exact ⟨⟨3, by omega, rfl, by have h := HF.out; rw [hz] at h; rw [h]; exact H6.out⟩, by simp [intOf]⟩
        · have ht : addW cur z c 2 = (cur ++ [32]) ++ padL c 2 := by
            rw [hz]
            unfold addW
            rw [if_pos rfl, if_neg hc0]
            simp
          have HF := Lib.hid (HC.out.trans ht)
          clear ht
          have hpos : 0 < cur.length := List.length_pos_iff.2 hc0
          have HBD1 : Hid (cur.length + ([32] : Bytes).length ≤ 140737488355328) := Lib.hid (by simp; omega)
          have HBD : Hid ((cur ++ [32]).length + (padL c 2).length ≤ 140737488355328) := Lib.hid (bd_ok (by simp; omega) (padL_len 5 c 2 (by omega) (by omega) (by omega)))
          clear hc0
          go_wp2_with fail
          refine (writeK (x := [32]) HKA.out HBD1.out).mono ?_
          rintro e w4 ⟨rfl, h4, h4k⟩
          obtain ⟨m0, m1, m2⟩ := (HM.out.kept h4.2 HG1.out).cells
          obtain ⟨q0, q1, q2⟩ := (HPP.out.kept h4k HNE.out).cells
          have HK4 := Lib.hid h4
          have HPA := Lib.hid (HPW.out.keep h4.1.2)
          clear h4 h4k
          go_wp2_with fail
          go_region_with ((first | (go_at_call 58; refine (air_pad c 2 _ (HPA.out.keep ((New.refl _).drew)) (by omega) (by omega)).mono ?_; rintro e w5 ⟨rfl, h5⟩) | (go_at_call 51; refine (writeK ((HK4.out.keep ((New.refl _).drew)).keep h5) HBD.out).mono ?_; rintro e w6 ⟨rfl, h6, h7⟩)))
          all_goals
            clear h5 h7 m0 m1 m2 q0 q1 q2
            have H6 := Lib.hid h6
            clear h6
            go_wp2_with fail
            exact ⟨⟨3, by omega, rfl, by have h := HF.out; rw [hz] at h; rw [h]; exact H6.out⟩, by simp [intOf]⟩
    · have HT : Hid (textTo 3 r s z a b c = exW r s z a b c) := Lib.hid rfl
      rw [HT.out] at HK hlen
      have HE : Hid (exL r s z a b c = if exW r s z a b c = [] then [45] else exW r s z a b c) := Lib.hid rfl
      generalize exW r s z a b c = cur at *
      go_wp2_with fail
      refine (lenK HK.out).mono ?_
      rintro e w' ⟨rfl, rfl⟩
      by_cases hc0 : cur = []
      · have HE2 : Hid (exL r s z a b c = [45]) := by
          have h := HE.out
          rw [if_pos hc0] at h
          exact Lib.hid h
        subst hc0
        go_wp2_with fail
        exact bodyPost_ret (v := .tuple #[.string (B [45]), .int .i64 0]) (by simp [results, Tryd.results30, go_sem]; rfl) rfl ⟨by rw [HE2.out], HN.out.trans HK.out.1.2⟩
      · have HE2 : Hid (exL r s z a b c = cur) := by
          have h := HE.out
          rw [if_neg hc0] at h
          exact Lib.hid h
        have hpos : ((cur.length : Int) == 0) = false := by
          rw [beq_eq_false_iff_ne]
          intro h
          exact hc0 (List.eq_nil_of_length_eq_zero (by omega))
        clear hc0
        go_wp2_with fail
        refine (readK' HK.out).mono ?_
        rintro e w6 ⟨rfl, h6⟩
        go_wp2_with fail
        exact bodyPost_ret (v := .tuple #[.string (B cur), .int .i64 0]) (by simp [results, Tryd.results30, go_sem]) rfl ⟨by rw [HE2.out], HN.out.trans h6⟩
theorem air_PrintExchange (r s z : Bool) (a b c : Int) (w : World) (hpow : HasPow w) :
    Calls Tryd.prog 30 #[layV r s z, exV a b c] w fun e w' => e = .returned (.tuple #[.string (B (textV (printX r s z a b c))), .int .i64 (errV 1 (printX r s z a b c))]) ∧ New w w' := by
  cases hv : validX r s z a b c with
  | false =>
    have HN := Lib.hid (((New.refl w).alloc (.cells #[.bool r, .bool s, .bool z] 43)).alloc (.cells #[.int .i64 a, .int .i64 b, .int .i64 c] 45))
    have HE : Hid (printX r s z a b c = none) := by
      have h : printX r s z a b c = none := by unfold printX; rw [hv]; rfl
      exact Lib.hid h
    unfold layV exV
    clear hpow
    go_enter Tryd.func30, Tryd.ntmps30
    go_wp2_with fail
    refine (air_ValidExchange r s z a b c _).mono ?_
    rintro e w1 ⟨rfl, h1⟩
    rw [hv]
    clear hv
    go_wp2_with fail
    exact bodyPost_ret (v := .tuple #[.string (B []), .int .i64 1]) (by simp [results, Tryd.results30, go_sem]; rfl) rfl ⟨by rw [HE.out]; rfl, HN.out.trans h1⟩
  | true =>
    have hn := valid_nums hv
    obtain ⟨x, rfl⟩ : ∃ x : Nat, a = x := ⟨a.toNat, by omega⟩
    obtain ⟨y, rfl⟩ : ∃ x : Nat, b = x := ⟨b.toNat, by omega⟩
    obtain ⟨t, rfl⟩ : ∃ x : Nat, c = x := ⟨c.toNat, by omega⟩
    have h : printX r s z x y t = some (exL r s z x y t) := by unfold printX; rw [hv]; rfl
    rw [h]
    exact air_PE_go r s z x y t w hpow hv

end Go.Proofs.YtcaljokcgfkppaaDoor
