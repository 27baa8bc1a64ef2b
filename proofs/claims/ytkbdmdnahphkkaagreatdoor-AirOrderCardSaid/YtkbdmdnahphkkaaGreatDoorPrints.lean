/-
  Numbers below 100 with zeros ahead of them, a builder of the call's own that is written on and read, and PrintTime of the program for every number.
-/
import Derived.Test.YtkbdmdnahphkkaaGreatDoorCalls
import Derived.Lib.ItoaNum
namespace Go.Proofs.YtkbdmdnahphkkaaGreatDoor
open Go.RowKit
/-- A number in decimal with at least d digits. -/
def padL (n d : Nat) : Bytes := List.replicate (d - (Lib.decDigits n).length) 48 ++ Lib.decDigits n
theorem repeat_one (c : Nat) : Lib.repeatL [48] c = List.replicate c 48 := by
  induction c with
  | zero => rfl
  | succ c ih => simp [Lib.repeatL, List.replicate_succ, ih]
theorem dec_len (n : Nat) (hn : n < 100) : (Lib.decDigits n).length ≤ 2 := by
  unfold Lib.decDigits
  split
  · simp
  · unfold Lib.decDigits
    rw [dif_pos (by omega)]
    simp
theorem air_pad_small (n d : Nat) (w : World) (hn : n < 100) (hd : d ≤ 8) :
    Calls Tryz.prog 53 #[.int .i64 n, .int .i64 d] w fun e w' => e = .returned (.string (B (padL n d))) ∧ New w w' := by
  have hl := dec_len n hn
  go_enter Tryz.func53, Tryz.ntmps53
  go_wp2_with fail
  refine (Tryz.strconv_Itoa_small n hn w).mono ?_
  rintro e w1 ⟨rfl, rfl⟩
  go_wp2_with fail
  have hm : max ((d : Int) - ((Lib.decDigits n).length : Int)) 0 = ((d - (Lib.decDigits n).length : Nat) : Int) := by omega
  rw [hm]
  have h48 : (⟨#[48]⟩ : ByteArray).size = 1 := rfl
  refine (Tryz.strings_Repeat ⟨#[48]⟩ _ w1 (by omega) (by rw [h48]; omega)).mono ?_
  rintro e w2 ⟨rfl, h2⟩
  have e1 : (⟨(Lib.repeatL (⟨#[48]⟩ : ByteArray).data.toList (d - (Lib.decDigits n).length)).toArray⟩ : ByteArray) = B (List.replicate (d - (Lib.decDigits n).length) 48) := by rw [← repeat_one]; rfl
  have e2 : (⟨(Lib.decDigits n).toArray⟩ : ByteArray) = B (Lib.decDigits n) := rfl
  have HX : B (List.replicate (d - (Lib.decDigits n).length) 48) ++ B (Lib.decDigits n) = B (padL n d) := by rw [B_append]; rfl
  have s1 : (B (List.replicate (d - (Lib.decDigits n).length) 48)).size = d - (Lib.decDigits n).length := by rw [B_size, List.length_replicate]
  have s2 : (B (Lib.decDigits n)).size = (Lib.decDigits n).length := B_size _
  rw [e1]
  simp only [e2]
  generalize B (List.replicate (d - (Lib.decDigits n).length) 48) = x at *
  generalize hy : B (Lib.decDigits n) = y at *
  generalize (Lib.decDigits n).length = l at *
  go_wp2_with fail
  go_ret
  exact ⟨by rw [← HX]; rfl, h2⟩
theorem WriteS (A b : Nat) (l : List Value) (s : ByteArray) (w : World) (h : Lib.IsBuilderF 97 5 A b l w) (hlen : l.length + s.size ≤ 140737488355328) (hAw : A ≤ w.heap.size) :
    Calls Tryz.prog 52 #[.pointer (some ⟨b, 0, none⟩), .string s] w fun e w' => e = .returned (.tuple #[.int .i64 s.size, .nilIface]) ∧ (Lib.BuilderAtF 97 5 A b (.pointer (some ⟨b, 0, none⟩)) (l ++ Lib.strCells s) w' ∧ Below A w w') :=
  Any.Builder_WriteString_f { Tryz.lays105 with } Tryz.Builder_Extra_105 A b l s w h hlen hAw
theorem heap_keep {w w' : World} (k : New w w') {g : Nat} {o : Obj} (h : w.heap[g]? = some o) : w'.heap[g]? = some o := (k.out.block g (Array.getElem?_eq_some_iff.1 h).1).trans h
theorem builder_keep {T e : TypeId} {A b : Nat} {p : Value} {l : List Value} {w w' : World} (h : Lib.BuilderAtF T e A b p l w) (k : New w w') : Lib.BuilderAtF T e A b p l w' := by
  obtain ⟨hA, v, hb, ⟨hl, hv⟩, hne⟩ := h
  refine ⟨hA, v, heap_keep k hb, ⟨hl, ?_⟩, hne⟩
  rcases hv with hv | ⟨g, cap, cur, fz, h1, h2, h3, h4⟩
  · exact Or.inl hv
  · exact Or.inr ⟨g, cap, cur, fz, h1, h2, heap_keep k h3, h4⟩
theorem str_cells (l : Bytes) : Lib.strCells (B l) = Lib.byteCells l := by simp [Lib.strCells, Lib.byteCells, B]
theorem byte_cells_append (a b : Bytes) : Lib.byteCells (a ++ b) = Lib.byteCells a ++ Lib.byteCells b := by simp [Lib.byteCells]
theorem isBuilder_keep {T e : TypeId} {A b : Nat} {l : List Value} {w w' : World} (h : Lib.IsBuilderF T e A b l w) (k : New w w') : Lib.IsBuilderF T e A b l w' :=
  h.elim (fun h => Or.inl (builder_keep h k)) (fun h => Or.inr (builder_keep h k))
/-- The builder b of a call that began at w0 holds the bytes l; nothing that was there at w0 has turned. -/
def Built (w0 : World) (b : Nat) (l : Bytes) (w : World) : Prop := Lib.IsBuilderF 97 5 w0.heap.size b (Lib.byteCells l) w ∧ New w0 w
theorem Built.new (w : World) : Built w w.heap.size [] (w.alloc (.cells #[.pointer none, .slice none 0 0] 97)) := ⟨Lib.IsBuilderF.of (Lib.fresh_isBuilder 97 5 w), (New.refl w).alloc _⟩
theorem Built.keep {w0 w w' : World} {b : Nat} {l : Bytes} (h : Built w0 b l w) (k : New w w') : Built w0 b l w' := ⟨isBuilder_keep h.1 k, h.2.trans k⟩
/-- Writing a text behind what a builder of this call holds. -/
theorem write_on {b : Nat} {l x : Bytes} {w0 w : World} (h : Built w0 b l w) (hlen : l.length + x.length ≤ 140737488355328) :
    Calls Tryz.prog 52 #[.pointer (some ⟨b, 0, none⟩), .string (B x)] w fun e w' => e = .returned (.tuple #[.int .i64 x.length, .nilIface]) ∧ Built w0 b (l ++ x) w' := by
  refine (WriteS w0.heap.size b (Lib.byteCells l) (B x) w h.1 (by simp [Lib.byteCells, B_size]; omega) h.2.size).mono ?_
  rintro e w' ⟨rfl, h1, h2⟩
  rw [str_cells, ← byte_cells_append] at h1
  exact ⟨by rw [B_size], Or.inr h1, Below.trans h.2 h2⟩
theorem read_on {b : Nat} {l : Bytes} {w0 w : World} (h : Built w0 b l w) :
    Calls Tryz.prog 54 #[.pointer (some ⟨b, 0, none⟩)] w fun e w' => e = .returned (.string (B l)) ∧ Built w0 b l w' := by
  refine (Tryz.Builder_String_any_f w0.heap.size b l w h.1 h.2.size).mono ?_
  rintro e w' ⟨rfl, h1, h2⟩
  exact ⟨rfl, h1, Below.trans h.2 h2⟩
theorem pad_len {n d : Nat} (hn : n < 100) (hd : d ≤ 8) : (padL n d).length ≤ 10 := by
  have := dec_len n hn
  unfold padL
  rw [List.length_append, List.length_replicate]
  omega
/-- A minute as a text. -/
def timeL (n : Nat) : Bytes := padL (n / 1440 + 1) 1 ++ 32 :: (padL (n % 1440 / 60) 2 ++ padL (n % 60) 2)
theorem air_PrintTime_go (n : Nat) (w : World) (hn : n ≤ 20000) :
    Calls Tryz.prog 25 #[.int .i64 n] w fun e w' => e = .returned (.tuple #[.string (B (timeL n)), .int .i64 0]) ∧ New w w' := by
  go_enter Tryz.func25, Tryz.ntmps25
  have hw : withinB n 0 20000 = true := by unfold withinB; simp; omega
  go_wp2_with fail
  refine (air_within _ _ _ w).mono ?_
  rintro e w' ⟨rfl, rfl⟩
  rw [hw]
  clear hw
  go_wp2_with fail
  have k1 : ((n : Int) / 1440 + 1) = ((n / 1440 + 1 : Nat) : Int) := by omega
  rw [k1]
  clear k1
  generalize hd : n / 1440 + 1 = day at *
  refine (air_pad_small day 1 _ (by omega) (by omega)).mono ?_
  rintro e w1 ⟨rfl, h1⟩
  have l1 := pad_len (n := day) (d := 1) (by omega) (by omega)
  have s1 := B_size (padL day 1)
  have s32 : (⟨#[32]⟩ : ByteArray).size = 1 := rfl
  generalize hp1 : padL day 1 = p1 at *
  go_wp2_with fail
  have e1 : B p1 ++ ⟨#[32]⟩ = B (p1 ++ [32]) := by rw [← B_append]; rfl
  rw [e1]
  have HB := Lib.hid ((Built.new w).keep h1)
  clear h1
  refine (write_on HB.out (by simp; omega)).mono ?_
  rintro e w2 ⟨rfl, h2⟩
  clear HB e1
  have HD := Lib.hid hd
  have HP1 := Lib.hid hp1
  clear hd hp1
  go_wp2_with fail
  have k2 : ((n : Int) % 1440 / 60) = ((n % 1440 / 60 : Nat) : Int) := by omega
  rw [k2]
  clear k2
  refine (air_pad_small (n % 1440 / 60) 2 _ (by omega) (by omega)).mono ?_
  rintro e w3 ⟨rfl, h3⟩
  have l2 := pad_len (n := n % 1440 / 60) (d := 2) (by omega) (by omega)
  have HB := Lib.hid (h2.keep h3)
  clear h2 h3
  generalize hp2 : padL (n % 1440 / 60) 2 = p2 at *
  have HP2 := Lib.hid hp2
  clear hp2
  generalize ((n % 1440 / 60 : Nat) : Int) = i2 at *
  go_wp2_with fail
  refine (write_on HB.out (by simp; omega)).mono ?_
  rintro e w4 ⟨rfl, h4⟩
  clear HB
  go_wp2_with fail
  have k2 : ((n : Int) % 60) = ((n % 60 : Nat) : Int) := by omega
  rw [k2]
  clear k2
  refine (air_pad_small (n % 60) 2 _ (by omega) (by omega)).mono ?_
  rintro e w5 ⟨rfl, h5⟩
  have l3 := pad_len (n := n % 60) (d := 2) (by omega) (by omega)
  have HB := Lib.hid (h4.keep h5)
  clear h4 h5
  generalize hp3 : padL (n % 60) 2 = p3 at *
  have HP3 := Lib.hid hp3
  clear hp3
  generalize ((n % 60 : Nat) : Int) = i3 at *
  go_wp2_with fail
  refine (write_on HB.out (by simp; omega)).mono ?_
  rintro e w6 ⟨rfl, h6⟩
  clear HB
  go_wp2_with fail
  refine (read_on h6).mono ?_
  rintro e w7 ⟨rfl, h7⟩
  clear h6
  go_wp2_with fail
  refine bodyPost_ret (v := .tuple #[.string (B (timeL n)), .int .i64 0]) (by simp [results, Tryz.results25, go_sem, timeL, HD.out, HP1.out, HP2.out, HP3.out]) rfl ⟨rfl, h7.2⟩
/-- PrintTime's text and error for any number. -/
def timeV (n : Int) : Option Bytes := if withinB n 0 20000 then some (timeL n.toNat) else none
def textV : Option Bytes → Bytes
  | some l => l
  | none => []
def errV (e : Int) : Option Bytes → Int
  | some _ => 0
  | none => e
theorem air_PrintTime (n : Int) (w : World) :
    Calls Tryz.prog 25 #[.int .i64 n] w fun e w' => e = .returned (.tuple #[.string (B (textV (timeV n))), .int .i64 (errV 1 (timeV n))]) ∧ New w w' := by
  cases hw : withinB n 0 20000 with
  | true =>
    have h0 : timeV n = some (timeL n.toNat) := by unfold timeV; rw [if_pos hw]
    rw [h0]
    unfold withinB at hw
    simp at hw
    obtain ⟨m, rfl⟩ : ∃ m : Nat, n = m := ⟨n.toNat, by omega⟩
    exact air_PrintTime_go m w (by omega)
  | false =>
    have h0 : timeV n = none := by unfold timeV; rw [if_neg (by rw [hw]; decide)]
    rw [h0]
    clear h0
    go_enter Tryz.func25, Tryz.ntmps25
    go_wp2_with fail
    refine (air_within _ _ _ w).mono ?_
    rintro e w' ⟨rfl, rfl⟩
    rw [hw]
    clear hw
    go_wp2_with fail
    refine bodyPost_ret (v := .tuple #[.string (B []), .int .i64 1]) (by simp [results, Tryz.results25, go_sem]; rfl) rfl ⟨rfl, New.refl w⟩

end Go.Proofs.YtkbdmdnahphkkaaGreatDoor
