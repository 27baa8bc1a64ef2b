/-
  ValidExchange and PrintExchange of the specification, for all layouts and exchanges. No condition.
-/
import Derived.Test.YtcaljokcgfkppaaDoorEx
import Derived.Test.YtcaljokcgfkppaaDoorRefDec
import Derived.Test.YtcaljokcgfkppaaDoorRefSplit
namespace Go.Proofs.YtcaljokcgfkppaaDoor
open Go.RowKit
def layV (r s z : Bool) : Value := .agg #[.bool r, .bool s, .bool z]
def exV (a b c : Int) : Value := .agg #[.int .i64 a, .int .i64 b, .int .i64 c]
theorem ref_has (h : Bool) (n most : Int) (w : World) :
    Calls Tryd.prog 66 #[.bool h, .int .i64 n, .int .i64 most] w fun e w' => e = .returned (.bool (hasV h n most)) ∧ w = w' := by
  cases h
  · go_enter Tryd.func66, Tryd.ntmps66
    go_wp2_with fail
    go_ret
    refine ⟨ret_bool ?_, rfl⟩
    unfold hasV
    by_cases h : n = 0 <;> simp [h]
  · go_enter Tryd.func66, Tryd.ntmps66
    go_wp2_with fail
    refine (ref_within _ _ _ w).mono ?_
    rintro e w' ⟨rfl, rfl⟩
    go_wp2_with fail
    go_ret
    exact ⟨rfl, rfl⟩
theorem ref_ValidExchange (r s z : Bool) (a b c : Int) (w : World) :
    Calls Tryd.prog 35 #[layV r s z, exV a b c] w fun e w' => e = .returned (.bool (validX r s z a b c)) ∧ New w w' := by
  have HE : Hid (validX r s z a b c = (hasV r a 599 && (hasV s b 99999 && hasV z c 99))) := rfl
  have HN := Lib.hid (((New.refl w).alloc (.cells #[.bool r, .bool s, .bool z] 43)).alloc (.cells #[.int .i64 a, .int .i64 b, .int .i64 c] 45))
  unfold layV exV
  go_enter Tryd.func35, Tryd.ntmps35
  go_wp2_with fail
  refine (ref_has _ _ _ _).mono ?_
  rintro e w' ⟨rfl, rfl⟩
  cases h1 : hasV r a 599 with
  | false =>
    rw [h1] at HE
    clear h1
    go_wp2_with fail
    go_ret
    exact ⟨by rw [HE.out]; rfl, HN.out⟩
  | true =>
    rw [h1] at HE
    clear h1
    go_wp2_with fail
    refine (ref_has _ _ _ _).mono ?_
    rintro e w' ⟨rfl, rfl⟩
    cases h2 : hasV s b 99999 with
    | false =>
      rw [h2] at HE
      clear h2
      go_wp2_with fail
      go_ret
      exact ⟨by rw [HE.out]; rfl, HN.out⟩
    | true =>
      rw [h2] at HE
      clear h2
      go_wp2_with fail
      refine (ref_has _ _ _ _).mono ?_
      rintro e w' ⟨rfl, rfl⟩
      rw [Bool.true_and, Bool.true_and] at HE
      generalize hasV z c 99 = v at *
      go_wp2_with fail
      go_ret
      exact ⟨by rw [HE.out]; rfl, HN.out⟩
/-- Words with blanks between them, as the specification puts them together: behind the first k of them. -/
def wordsK (l : List Bytes) (k : Nat) : Bytes := joinP 32 (l.take k)
theorem joinP_snoc : ∀ (l : List Bytes) (x : Bytes), l ≠ [] → joinP 32 (l ++ [x]) = joinP 32 l ++ 32 :: x
  | [], _, h => absurd rfl h
  | [a], x, _ => rfl
  | a :: b :: l, x, _ => by
    have ih := joinP_snoc (b :: l) x (by simp)
    rw [show a :: b :: l ++ [x] = a :: b :: (l ++ [x]) from rfl, show joinP 32 (a :: b :: (l ++ [x])) = a ++ 32 :: joinP 32 (b :: (l ++ [x])) from rfl, show b :: (l ++ [x]) = b :: l ++ [x] from rfl, ih]
    simp [joinP]
theorem wordsK_on (l : List Bytes) (k : Nat) (x : Bytes) (h : l[k]? = some x) : wordsK l (k + 1) = if k = 0 then x else wordsK l k ++ 32 :: x := by
  have hk : k < l.length := (List.getElem?_eq_some_iff.1 h).1
  have hx : l[k] = x := (List.getElem?_eq_some_iff.1 h).2
  unfold wordsK
  rw [List.take_succ_eq_append_getElem hk, hx]
  by_cases h0 : k = 0
  · subst h0; rfl
  · rw [if_neg h0, joinP_snoc]
    intro e
    have h2 : min k l.length = 0 := by rw [← List.length_take, e]; rfl
    omega
theorem joinP_len (m : Nat) : ∀ (l : List Bytes), (∀ x ∈ l, x.length ≤ m) → (joinP 32 l).length ≤ l.length * (m + 1)
  | [], _ => by simp [joinP]
  | [x], h => by
    have := h x (by simp)
    simp [joinP]; omega
  | x :: y :: l, h => by
    have h1 := h x (by simp)
    have ih := joinP_len m (y :: l) (fun a ha => h a (by simp [ha]))
    rw [show joinP 32 (x :: y :: l) = x ++ 32 :: joinP 32 (y :: l) from rfl]
    simp only [List.length_append, List.length_cons] at ih ⊢
    rw [Nat.add_mul (l.length + 1) 1]
    omega
theorem ref_words (l : List Bytes) (g cap : Nat) (w : World) (hc : ∀ (i : Nat) x, l[i]? = some x → w.cell? ⟨g, i, none⟩ = some (strV x)) (hl : l.length ≤ 1000) (hz : ∀ x ∈ l, x.length ≤ 1000) :
    Calls Tryd.prog 60 #[.slice (some ⟨g, 0, none⟩) l.length cap] w fun e w' => e = .returned (.string (B (joinP 32 l))) ∧ New w w' := by
  have HC := Lib.hid hc
  have HZ := Lib.hid hz
  clear hc hz
  go_enter Tryd.func60, Tryd.ntmps60
  go_wp2_with fail
  go_loop [3, 4] (fun o i => ∃ k : Nat, k ≤ l.length ∧ i = .int .i64 k ∧ o = .string (B (wordsK l k))) (fun _ i => l.length - (intOf i).toNat)
  case atStart => exact ⟨0, by omega, rfl, rfl⟩
  case round =>
    obtain ⟨k, hk, rfl, rfl⟩ := hrel
    by_cases hlt : k < l.length
    · obtain ⟨x, hx⟩ : ∃ x, l[k]? = some x := ⟨l[k], List.getElem?_eq_getElem hlt⟩
      have c0 := HC.out k x hx
      have HW := Lib.hid (wordsK_on l k x hx)
      have hxz := HZ.out x (List.mem_of_getElem? hx)
      have hsx := B_size x
      have hsw := B_size (wordsK l k)
      have hwl : (wordsK l k).length ≤ 1001000 := by
        have h := joinP_len 1000 (l.take k) (fun y hy => HZ.out y (List.mem_of_mem_take hy))
        unfold wordsK
        rw [List.length_take] at h
        have : min k l.length * (1000 + 1) ≤ 1000 * 1001 := Nat.mul_le_mul_right 1001 (by omega)
        omega
      clear hx
      simp only [strV] at c0
      have HO : Hid (k = 0 → wordsK l k = []) := Lib.hid (fun h => by subst h; rfl)
      generalize wordsK l k = o at *
      by_cases h0 : k = 0
      · subst h0
        have HX : Hid (B o ++ B x = B (wordsK l (0 + 1))) := by
          have h : B o ++ B x = B (wordsK l (0 + 1)) := by rw [HO.out rfl, HW.out, if_pos rfl, B_append]; rfl
          exact Lib.hid h
        clear HW HO
        go_wp2_with fail
        refine ⟨⟨1, by omega, rfl, by rw [HX.out]⟩, by simp [intOf]; omega⟩
      · have hpos : 0 < k := by omega
        have HW2 : Hid (wordsK l (k + 1) = o ++ 32 :: x) := by
          have h := HW.out
          rw [if_neg h0] at h
          exact Lib.hid h
        have s32 : (⟨#[32]⟩ : ByteArray).size = 1 := rfl
        have y0 : (B o ++ ⟨#[32]⟩).size = o.length + 1 := by rw [ByteArray.size_append]; omega
        have HX : Hid (B o ++ ⟨#[32]⟩ ++ B x = B (o ++ 32 :: x)) := by
          have h : B o ++ ⟨#[32]⟩ ++ B x = B (o ++ 32 :: x) := by
            rw [show (⟨#[32]⟩ : ByteArray) = B [32] from rfl, B_append, B_append]
            congr 1
            simp
          exact Lib.hid h
        clear HW h0
        go_wp2_with fail
        refine ⟨⟨k + 1, by omega, rfl, by rw [HW2.out, HX.out]⟩, by simp [intOf]; omega⟩
    · obtain rfl : k = l.length := by omega
      have HW : Hid (wordsK l l.length = joinP 32 l) := by
        have h : wordsK l l.length = joinP 32 l := by unfold wordsK; rw [List.take_length]
        exact Lib.hid h
      go_wp2_with fail
      go_ret
      exact ⟨by rw [HW.out]; rfl, New.refl w⟩
theorem strs_push {w0 wi w1 : World} {l : List Bytes} {v v' : Value} {x : Bytes} (h : StrsAt w0 l v wi)
    (h4 : w1.ownsRow w0.heap.size 9 1 v' (l.length + 1) (l.map strV ++ [strV x])) (hg : (wi.alloc (.cells #[strV x] 9)).grownBy w1 v.ownBlock) : StrsAt w0 (l ++ [x]) v' w1 := by
  refine ⟨?_, ?_⟩
  · rw [List.length_append, List.length_singleton, List.map_append]; exact h4
  · exact (h.2.alloc (.cells #[strV x] 9)).out.grown hg (by have := h.2.size; simp; omega) (fun b hb => (h.1.lt b hb).1)
theorem StrsAt.nil (w : World) : StrsAt w [] (.slice none 0 0) w := ⟨World.ownsRow_nil _ _ _ _, New.refl w⟩
/-- The layout and the exchange of a call, in their blocks. -/
def ExAt (w : World) (g : Nat) (r s z : Bool) (a b c : Int) : Prop := w.heap[g]? = some (.cells #[.bool r, .bool s, .bool z] 43 (0, 0)) ∧ w.heap[g + 1]? = some (.cells #[.int .i64 a, .int .i64 b, .int .i64 c] 45 (0, 0))
theorem ExAt.new (w : World) (r s z : Bool) (a b c : Int) : ExAt ((w.alloc (.cells #[.bool r, .bool s, .bool z] 43)).alloc (.cells #[.int .i64 a, .int .i64 b, .int .i64 c] 45)) w.heap.size r s z a b c := by
  refine ⟨heap_keep ((New.refl _).alloc _) (heap_alloc_new w _), ?_⟩
  have h := heap_alloc_new (w.alloc (.cells #[.bool r, .bool s, .bool z] 43)) (.cells #[.int .i64 a, .int .i64 b, .int .i64 c] 45)
  simpa using h
theorem ExAt.keep {w w' : World} {g : Nat} {r s z : Bool} {a b c : Int} (h : ExAt w g r s z a b c) (k : New w w') : ExAt w' g r s z a b c := ⟨heap_keep k h.1, heap_keep k h.2⟩
theorem ExAt.cells {w : World} {g : Nat} {r s z : Bool} {a b c : Int} (h : ExAt w g r s z a b c) :
    w.cell? ⟨g, 0, none⟩ = some (.bool r) ∧ w.cell? ⟨g, 1, none⟩ = some (.bool s) ∧ w.cell? ⟨g, 2, none⟩ = some (.bool z) ∧ w.cell? ⟨g + 1, 0, none⟩ = some (.int .i64 a) ∧ w.cell? ⟨g + 1, 1, none⟩ = some (.int .i64 b) ∧ w.cell? ⟨g + 1, 2, none⟩ = some (.int .i64 c) := by
  refine ⟨?_, ?_, ?_, ?_, ?_, ?_⟩
  · rw [cell_of_row _ _ 0 _ _ _ h.1]; rfl
  · rw [cell_of_row _ _ 1 _ _ _ h.1]; rfl
  · rw [cell_of_row _ _ 2 _ _ _ h.1]; rfl
  · rw [cell_of_row _ _ 0 _ _ _ h.2]; rfl
  · rw [cell_of_row _ _ 1 _ _ _ h.2]; rfl
  · rw [cell_of_row _ _ 2 _ _ _ h.2]; rfl
set_option maxHeartbeats 1000000 in
theorem ref_PE_fff (x y t : Nat) (w : World) (hv : validX false false false x y t = true) :
    Calls Tryd.prog 31 #[layV false false false, exV x y t] w fun e w' => e = .returned (.tuple #[.string (B (exL false false false x y t)), .int .i64 0]) ∧ New w w' := by
  obtain ⟨i0, hi, hz0, hz1, hz2⟩ := info_parts info_str
  have HN := Lib.hid (((New.refl w).alloc (.cells #[.bool false, .bool false, .bool false] 43)).alloc (.cells #[.int .i64 x, .int .i64 y, .int .i64 t] 45))
  have HX := Lib.hid (ExAt.new w false false false x y t)
  obtain ⟨-, -, -, b1, b2, b3, -, -, -⟩ := valid_nums hv
  have HV := Lib.hid hv
  clear hv
  unfold layV exV
  go_enter Tryd.func31, Tryd.ntmps31
  go_wp2_with fail
  refine (ref_ValidExchange false false false x y t _).mono ?_
  rintro e w1 ⟨rfl, h1⟩
  rw [HV.out]
  have HX1 := Lib.hid (HX.out.keep h1)
  replace HN := Lib.hid (HN.out.trans h1)
  clear h1 HX
  have HS0 := Lib.hid (StrsAt.nil w1)
  obtain ⟨c0, c1, c2, c3, c4, c5⟩ := HX1.out.cells
  go_wp2_with fail
  exact bodyPost_ret (v := .tuple #[.string (B [45]), .int .i64 0]) (by simp [results, Tryd.results31, go_sem]; rfl) rfl ⟨by rfl, HN.out⟩
set_option maxHeartbeats 1000000 in
theorem ref_PE_fft (x y t : Nat) (w : World) (hv : validX false false true x y t = true) :
    Calls Tryd.prog 31 #[layV false false true, exV x y t] w fun e w' => e = .returned (.tuple #[.string (B (exL false false true x y t)), .int .i64 0]) ∧ New w w' := by
  obtain ⟨i0, hi, hz0, hz1, hz2⟩ := info_parts info_str
  have HN := Lib.hid (((New.refl w).alloc (.cells #[.bool false, .bool false, .bool true] 43)).alloc (.cells #[.int .i64 x, .int .i64 y, .int .i64 t] 45))
  have HX := Lib.hid (ExAt.new w false false true x y t)
  obtain ⟨-, -, -, b1, b2, b3, -, -, -⟩ := valid_nums hv
  have HV := Lib.hid hv
  clear hv
  unfold layV exV
  go_enter Tryd.func31, Tryd.ntmps31
  go_wp2_with fail
  refine (ref_ValidExchange false false true x y t _).mono ?_
  rintro e w1 ⟨rfl, h1⟩
  rw [HV.out]
  have HX1 := Lib.hid (HX.out.keep h1)
  replace HN := Lib.hid (HN.out.trans h1)
  clear h1 HX
  have HS0 := Lib.hid (StrsAt.nil w1)
  obtain ⟨c0, c1, c2, c3, c4, c5⟩ := HX1.out.cells
  go_wp2_with fail
  refine (ref_Dec t 2 _ (by omega) (by omega) (by omega)).mono ?_
  rintro e w0d ⟨rfl, hd⟩
  have hS0 := HS0.out.keep hd
  have HSd0 := Lib.hid hS0
  clear hS0 c0 c1 c2 c3 c4 c5
  have hn0 := HSd0.out.2
  have hsz0 := hn0.size
  obtain ⟨c0, c1, c2, c3, c4, c5⟩ := (HX1.out.keep hn0).cells
  have HQ0 := Lib.hid (hn0)
  clear hn0 hd
  go_wp2_with (at_builtin; refine wpList_append_own _ rfl (.tmp 29) (.tmp 33) 64 rfl w1.heap.size 9 i0 (.string ⟨#[]⟩) 1 16 Tryd.underlying64 hi hz0 hz1 hz2 rfl (by decide) _ _ _ rfl (HSd0.out.1.alloc _) ⟨w0d.heap.size, 0, none⟩ 1 1 [strV (padL t 2)] rfl rfl ?p0 ?q0 ?r0 ?s0 ?u0 ?_)
  case p0 => exact one_str _ _
  case q0 => exact one_cell _
  case r0 => unfold maxLen; simp
  case s0 => simp
  case u0 => simp; omega
  intro v1 w2 hown hgrow _
  have HS1 := Lib.hid (strs_push HSd0.out hown hgrow)
  clear hown hgrow c0 c1 c2 c3 c4 c5 HQ0
  obtain ⟨c0, c1, c2, c3, c4, c5⟩ := (HX1.out.keep HS1.out.2).cells
  have hl : ∀ u ∈ [padL t 2], u.length ≤ 1000 := by
    have p1 := padL_len 3 x 1 (by omega) (by omega) (by omega)
    have p2 := padL_len 5 y 3 (by omega) (by omega) (by omega)
    have p3 := padL_len 2 t 2 (by omega) (by omega) (by omega)
    intro u hu
    simp at hu
    rcases hu with rfl <;> omega
  obtain ⟨g, cap, rfl, hg1, hg2, hcap, hcell⟩ := HS1.out.open' (by simp)
  have HC := Lib.hid hcell
  have HL := Lib.hid hl
  clear hcell hl
  go_wp2_with fail
  refine (ref_words [padL t 2] g cap _ HC.out (by simp) HL.out).mono ?_
  rintro e w9 ⟨rfl, h9⟩
  have HF : Hid (exL false false true x y t = joinP 32 [padL t 2]) := by
    have h : exL false false true x y t = joinP 32 [padL t 2] := by
      rw [exL, exW_words, if_neg]
      · rfl
      · exact joinP_ne (pad_ne _ _ (by omega)) _
    exact Lib.hid h
  go_wp2_with fail
  exact bodyPost_ret (v := .tuple #[.string (B (joinP 32 [padL t 2])), .int .i64 0]) (by simp [results, Tryd.results31, go_sem]) rfl ⟨by rw [HF.out], (HN.out.trans HS1.out.2).trans h9⟩
set_option maxHeartbeats 1000000 in
theorem ref_PE_ftf (x y t : Nat) (w : World) (hv : validX false true false x y t = true) :
    Calls Tryd.prog 31 #[layV false true false, exV x y t] w fun e w' => e = .returned (.tuple #[.string (B (exL false true false x y t)), .int .i64 0]) ∧ New w w' := by
  obtain ⟨i0, hi, hz0, hz1, hz2⟩ := info_parts info_str
  have HN := Lib.hid (((New.refl w).alloc (.cells #[.bool false, .bool true, .bool false] 43)).alloc (.cells #[.int .i64 x, .int .i64 y, .int .i64 t] 45))
  have HX := Lib.hid (ExAt.new w false true false x y t)
  obtain ⟨-, -, -, b1, b2, b3, -, -, -⟩ := valid_nums hv
  have HV := Lib.hid hv
  clear hv
  unfold layV exV
  go_enter Tryd.func31, Tryd.ntmps31
  go_wp2_with fail
  refine (ref_ValidExchange false true false x y t _).mono ?_
  rintro e w1 ⟨rfl, h1⟩
  rw [HV.out]
  have HX1 := Lib.hid (HX.out.keep h1)
  replace HN := Lib.hid (HN.out.trans h1)
  clear h1 HX
  have HS0 := Lib.hid (StrsAt.nil w1)
  obtain ⟨c0, c1, c2, c3, c4, c5⟩ := HX1.out.cells
  go_wp2_with fail
  refine (ref_Dec y 3 _ (by omega) (by omega) (by omega)).mono ?_
  rintro e w0d ⟨rfl, hd⟩
  have hS0 := HS0.out.keep hd
  have HSd0 := Lib.hid hS0
  clear hS0 c0 c1 c2 c3 c4 c5
  have hn0 := HSd0.out.2
  have hsz0 := hn0.size
  obtain ⟨c0, c1, c2, c3, c4, c5⟩ := (HX1.out.keep hn0).cells
  have HQ0 := Lib.hid (hn0)
  clear hn0 hd
  go_wp2_with (at_builtin; refine wpList_append_own _ rfl (.tmp 21) (.tmp 25) 64 rfl w1.heap.size 9 i0 (.string ⟨#[]⟩) 1 16 Tryd.underlying64 hi hz0 hz1 hz2 rfl (by decide) _ _ _ rfl (HSd0.out.1.alloc _) ⟨w0d.heap.size, 0, none⟩ 1 1 [strV (padL y 3)] rfl rfl ?p0 ?q0 ?r0 ?s0 ?u0 ?_)
  case p0 => exact one_str _ _
  case q0 => exact one_cell _
  case r0 => unfold maxLen; simp
  case s0 => simp
  case u0 => simp; omega
  intro v1 w2 hown hgrow _
  have HS1 := Lib.hid (strs_push HSd0.out hown hgrow)
  clear hown hgrow c0 c1 c2 c3 c4 c5 HQ0
  obtain ⟨c0, c1, c2, c3, c4, c5⟩ := (HX1.out.keep HS1.out.2).cells
  have hl : ∀ u ∈ [padL y 3], u.length ≤ 1000 := by
    have p1 := padL_len 3 x 1 (by omega) (by omega) (by omega)
    have p2 := padL_len 5 y 3 (by omega) (by omega) (by omega)
    have p3 := padL_len 2 t 2 (by omega) (by omega) (by omega)
    intro u hu
    simp at hu
    rcases hu with rfl <;> omega
  obtain ⟨g, cap, rfl, hg1, hg2, hcap, hcell⟩ := HS1.out.open' (by simp)
  have HC := Lib.hid hcell
  have HL := Lib.hid hl
  clear hcell hl
  go_wp2_with fail
  refine (ref_words [padL y 3] g cap _ HC.out (by simp) HL.out).mono ?_
  rintro e w9 ⟨rfl, h9⟩
  have HF : Hid (exL false true false x y t = joinP 32 [padL y 3]) := by
    have h : exL false true false x y t = joinP 32 [padL y 3] := by
      rw [exL, exW_words, if_neg]
      · rfl
      · exact joinP_ne (pad_ne _ _ (by omega)) _
    exact Lib.hid h
  go_wp2_with fail
  exact bodyPost_ret (v := .tuple #[.string (B (joinP 32 [padL y 3])), .int .i64 0]) (by simp [results, Tryd.results31, go_sem]) rfl ⟨by rw [HF.out], (HN.out.trans HS1.out.2).trans h9⟩
set_option maxHeartbeats 1000000 in
theorem ref_PE_ftt (x y t : Nat) (w : World) (hv : validX false true true x y t = true) :
    Calls Tryd.prog 31 #[layV false true true, exV x y t] w fun e w' => e = .returned (.tuple #[.string (B (exL false true true x y t)), .int .i64 0]) ∧ New w w' := by
  obtain ⟨i0, hi, hz0, hz1, hz2⟩ := info_parts info_str
  have HN := Lib.hid (((New.refl w).alloc (.cells #[.bool false, .bool true, .bool true] 43)).alloc (.cells #[.int .i64 x, .int .i64 y, .int .i64 t] 45))
  have HX := Lib.hid (ExAt.new w false true true x y t)
  obtain ⟨-, -, -, b1, b2, b3, -, -, -⟩ := valid_nums hv
  have HV := Lib.hid hv
  clear hv
  unfold layV exV
  go_enter Tryd.func31, Tryd.ntmps31
  go_wp2_with fail
  refine (ref_ValidExchange false true true x y t _).mono ?_
  rintro e w1 ⟨rfl, h1⟩
  rw [HV.out]
  have HX1 := Lib.hid (HX.out.keep h1)
  replace HN := Lib.hid (HN.out.trans h1)
  clear h1 HX
  have HS0 := Lib.hid (StrsAt.nil w1)
  obtain ⟨c0, c1, c2, c3, c4, c5⟩ := HX1.out.cells
  go_wp2_with fail
  refine (ref_Dec y 3 _ (by omega) (by omega) (by omega)).mono ?_
  rintro e w0d ⟨rfl, hd⟩
  have hS0 := HS0.out.keep hd
  have HSd0 := Lib.hid hS0
  clear hS0 c0 c1 c2 c3 c4 c5
  have hn0 := HSd0.out.2
  have hsz0 := hn0.size
  obtain ⟨c0, c1, c2, c3, c4, c5⟩ := (HX1.out.keep hn0).cells
  have HQ0 := Lib.hid (hn0)
  clear hn0 hd
  go_wp2_with (at_builtin; refine wpList_append_own _ rfl (.tmp 21) (.tmp 25) 64 rfl w1.heap.size 9 i0 (.string ⟨#[]⟩) 1 16 Tryd.underlying64 hi hz0 hz1 hz2 rfl (by decide) _ _ _ rfl (HSd0.out.1.alloc _) ⟨w0d.heap.size, 0, none⟩ 1 1 [strV (padL y 3)] rfl rfl ?p0 ?q0 ?r0 ?s0 ?u0 ?_)
  case p0 => exact one_str _ _
  case q0 => exact one_cell _
  case r0 => unfold maxLen; simp
  case s0 => simp
  case u0 => simp; omega
  intro v1 w2 hown hgrow _
  have HS1 := Lib.hid (strs_push HSd0.out hown hgrow)
  clear hown hgrow c0 c1 c2 c3 c4 c5 HQ0
  obtain ⟨c0, c1, c2, c3, c4, c5⟩ := (HX1.out.keep HS1.out.2).cells
  go_wp2_with fail
  refine (ref_Dec t 2 _ (by omega) (by omega) (by omega)).mono ?_
  rintro e w1d ⟨rfl, hd⟩
  have hS1 := HS1.out.keep hd
  have HSd1 := Lib.hid hS1
  clear hS1 c0 c1 c2 c3 c4 c5
  have hn1 := HSd1.out.2
  have hsz1 := hn1.size
  obtain ⟨c0, c1, c2, c3, c4, c5⟩ := (HX1.out.keep hn1).cells
  have HQ1 := Lib.hid (hn1)
  clear hn1 hd
  go_wp2_with (at_builtin; refine wpList_append_own _ rfl (.tmp 29) (.tmp 33) 64 rfl w1.heap.size 9 i0 (.string ⟨#[]⟩) 1 16 Tryd.underlying64 hi hz0 hz1 hz2 rfl (by decide) _ _ _ rfl (HSd1.out.1.alloc _) ⟨w1d.heap.size, 0, none⟩ 1 1 [strV (padL t 2)] rfl rfl ?p1 ?q1 ?r1 ?s1 ?u1 ?_)
  case p1 => exact one_str _ _
  case q1 => exact one_cell _
  case r1 => unfold maxLen; simp
  case s1 => simp
  case u1 => simp; omega
  intro v2 w3 hown hgrow _
  have HS2 := Lib.hid (strs_push HSd1.out hown hgrow)
  clear hown hgrow c0 c1 c2 c3 c4 c5 HQ1
  obtain ⟨c0, c1, c2, c3, c4, c5⟩ := (HX1.out.keep HS2.out.2).cells
  have hl : ∀ u ∈ [padL y 3, padL t 2], u.length ≤ 1000 := by
    have p1 := padL_len 3 x 1 (by omega) (by omega) (by omega)
    have p2 := padL_len 5 y 3 (by omega) (by omega) (by omega)
    have p3 := padL_len 2 t 2 (by omega) (by omega) (by omega)
    intro u hu
    simp at hu
    rcases hu with rfl | rfl <;> omega
  obtain ⟨g, cap, rfl, hg1, hg2, hcap, hcell⟩ := HS2.out.open' (by simp)
  have HC := Lib.hid hcell
  have HL := Lib.hid hl
  clear hcell hl
  go_wp2_with fail
  refine (ref_words [padL y 3, padL t 2] g cap _ HC.out (by simp) HL.out).mono ?_
  rintro e w9 ⟨rfl, h9⟩
  have HF : Hid (exL false true true x y t = joinP 32 [padL y 3, padL t 2]) := by
    have h : exL false true true x y t = joinP 32 [padL y 3, padL t 2] := by
      rw [exL, exW_words, if_neg]
      · rfl
      · exact joinP_ne (pad_ne _ _ (by omega)) _
    exact Lib.hid h
  go_wp2_with fail
  exact bodyPost_ret (v := .tuple #[.string (B (joinP 32 [padL y 3, padL t 2])), .int .i64 0]) (by simp [results, Tryd.results31, go_sem]) rfl ⟨by rw [HF.out], (HN.out.trans HS2.out.2).trans h9⟩
set_option maxHeartbeats 1000000 in
theorem ref_PE_tff (x y t : Nat) (w : World) (hv : validX true false false x y t = true) :
    Calls Tryd.prog 31 #[layV true false false, exV x y t] w fun e w' => e = .returned (.tuple #[.string (B (exL true false false x y t)), .int .i64 0]) ∧ New w w' := by
  obtain ⟨i0, hi, hz0, hz1, hz2⟩ := info_parts info_str
  have HN := Lib.hid (((New.refl w).alloc (.cells #[.bool true, .bool false, .bool false] 43)).alloc (.cells #[.int .i64 x, .int .i64 y, .int .i64 t] 45))
  have HX := Lib.hid (ExAt.new w true false false x y t)
  obtain ⟨-, -, -, b1, b2, b3, -, -, -⟩ := valid_nums hv
  have HV := Lib.hid hv
  clear hv
  unfold layV exV
  go_enter Tryd.func31, Tryd.ntmps31
  go_wp2_with fail
  refine (ref_ValidExchange true false false x y t _).mono ?_
  rintro e w1 ⟨rfl, h1⟩
  rw [HV.out]
  have HX1 := Lib.hid (HX.out.keep h1)
  replace HN := Lib.hid (HN.out.trans h1)
  clear h1 HX
  have HS0 := Lib.hid (StrsAt.nil w1)
  obtain ⟨c0, c1, c2, c3, c4, c5⟩ := HX1.out.cells
  go_wp2_with fail
  refine (ref_Dec x 1 _ (by omega) (by omega) (by omega)).mono ?_
  rintro e w0d ⟨rfl, hd⟩
  have hS0 := HS0.out.keep hd
  have HSd0 := Lib.hid hS0
  clear hS0 c0 c1 c2 c3 c4 c5
  have hn0 := HSd0.out.2
  have hsz0 := hn0.size
  obtain ⟨c0, c1, c2, c3, c4, c5⟩ := (HX1.out.keep hn0).cells
  have HQ0 := Lib.hid (hn0)
  clear hn0 hd
  go_wp2_with (at_builtin; refine wpList_append_own _ rfl (.tmp 13) (.tmp 17) 64 rfl w1.heap.size 9 i0 (.string ⟨#[]⟩) 1 16 Tryd.underlying64 hi hz0 hz1 hz2 rfl (by decide) _ _ _ rfl (HSd0.out.1.alloc _) ⟨w0d.heap.size, 0, none⟩ 1 1 [strV (padL x 1)] rfl rfl ?p0 ?q0 ?r0 ?s0 ?u0 ?_)
  case p0 => exact one_str _ _
  case q0 => exact one_cell _
  case r0 => unfold maxLen; simp
  case s0 => simp
  case u0 => simp; omega
  intro v1 w2 hown hgrow _
  have HS1 := Lib.hid (strs_push HSd0.out hown hgrow)
  clear hown hgrow c0 c1 c2 c3 c4 c5 HQ0
  obtain ⟨c0, c1, c2, c3, c4, c5⟩ := (HX1.out.keep HS1.out.2).cells
  have hl : ∀ u ∈ [padL x 1], u.length ≤ 1000 := by
    have p1 := padL_len 3 x 1 (by omega) (by omega) (by omega)
    have p2 := padL_len 5 y 3 (by omega) (by omega) (by omega)
    have p3 := padL_len 2 t 2 (by omega) (by omega) (by omega)
    intro u hu
    simp at hu
    rcases hu with rfl <;> omega
  obtain ⟨g, cap, rfl, hg1, hg2, hcap, hcell⟩ := HS1.out.open' (by simp)
  have HC := Lib.hid hcell
  have HL := Lib.hid hl
  clear hcell hl
  go_wp2_with fail
  refine (ref_words [padL x 1] g cap _ HC.out (by simp) HL.out).mono ?_
  rintro e w9 ⟨rfl, h9⟩
  have HF : Hid (exL true false false x y t = joinP 32 [padL x 1]) := by
    have h : exL true false false x y t = joinP 32 [padL x 1] := by
      rw [exL, exW_words, if_neg]
      · rfl
      · exact joinP_ne (pad_ne _ _ (by omega)) _
    exact Lib.hid h
  go_wp2_with fail
  exact bodyPost_ret (v := .tuple #[.string (B (joinP 32 [padL x 1])), .int .i64 0]) (by simp [results, Tryd.results31, go_sem]) rfl ⟨by rw [HF.out], (HN.out.trans HS1.out.2).trans h9⟩
set_option maxHeartbeats 1000000 in
theorem ref_PE_tft (x y t : Nat) (w : World) (hv : validX true false true x y t = true) :
    Calls Tryd.prog 31 #[layV true false true, exV x y t] w fun e w' => e = .returned (.tuple #[.string (B (exL true false true x y t)), .int .i64 0]) ∧ New w w' := by
  obtain ⟨i0, hi, hz0, hz1, hz2⟩ := info_parts info_str
  have HN := Lib.hid (((New.refl w).alloc (.cells #[.bool true, .bool false, .bool true] 43)).alloc (.cells #[.int .i64 x, .int .i64 y, .int .i64 t] 45))
  have HX := Lib.hid (ExAt.new w true false true x y t)
  obtain ⟨-, -, -, b1, b2, b3, -, -, -⟩ := valid_nums hv
  have HV := Lib.hid hv
  clear hv
  unfold layV exV
  go_enter Tryd.func31, Tryd.ntmps31
  go_wp2_with fail
  refine (ref_ValidExchange true false true x y t _).mono ?_
  rintro e w1 ⟨rfl, h1⟩
  rw [HV.out]
  have HX1 := Lib.hid (HX.out.keep h1)
  replace HN := Lib.hid (HN.out.trans h1)
  clear h1 HX
  have HS0 := Lib.hid (StrsAt.nil w1)
  obtain ⟨c0, c1, c2, c3, c4, c5⟩ := HX1.out.cells
  go_wp2_with fail
  refine (ref_Dec x 1 _ (by omega) (by omega) (by omega)).mono ?_
  rintro e w0d ⟨rfl, hd⟩
  have hS0 := HS0.out.keep hd
  have HSd0 := Lib.hid hS0
  clear hS0 c0 c1 c2 c3 c4 c5
  have hn0 := HSd0.out.2
  have hsz0 := hn0.size
  obtain ⟨c0, c1, c2, c3, c4, c5⟩ := (HX1.out.keep hn0).cells
  have HQ0 := Lib.hid (hn0)
  clear hn0 hd
  go_wp2_with (at_builtin; refine wpList_append_own _ rfl (.tmp 13) (.tmp 17) 64 rfl w1.heap.size 9 i0 (.string ⟨#[]⟩) 1 16 Tryd.underlying64 hi hz0 hz1 hz2 rfl (by decide) _ _ _ rfl (HSd0.out.1.alloc _) ⟨w0d.heap.size, 0, none⟩ 1 1 [strV (padL x 1)] rfl rfl ?p0 ?q0 ?r0 ?s0 ?u0 ?_)
  case p0 => exact one_str _ _
  case q0 => exact one_cell _
  case r0 => unfold maxLen; simp
  case s0 => simp
  case u0 => simp; omega
  intro v1 w2 hown hgrow _
  have HS1 := Lib.hid (strs_push HSd0.out hown hgrow)
  clear hown hgrow c0 c1 c2 c3 c4 c5 HQ0
  obtain ⟨c0, c1, c2, c3, c4, c5⟩ := (HX1.out.keep HS1.out.2).cells
  go_wp2_with fail
  refine (ref_Dec t 2 _ (by omega) (by omega) (by omega)).mono ?_
  rintro e w1d ⟨rfl, hd⟩
  have hS1 := HS1.out.keep hd
  have HSd1 := Lib.hid hS1
  clear hS1 c0 c1 c2 c3 c4 c5
  have hn1 := HSd1.out.2
  have hsz1 := hn1.size
  obtain ⟨c0, c1, c2, c3, c4, c5⟩ := (HX1.out.keep hn1).cells
  have HQ1 := Lib.hid (hn1)
  clear hn1 hd
  go_wp2_with (at_builtin; refine wpList_append_own _ rfl (.tmp 29) (.tmp 33) 64 rfl w1.heap.size 9 i0 (.string ⟨#[]⟩) 1 16 Tryd.underlying64 hi hz0 hz1 hz2 rfl (by decide) _ _ _ rfl (HSd1.out.1.alloc _) ⟨w1d.heap.size, 0, none⟩ 1 1 [strV (padL t 2)] rfl rfl ?p1 ?q1 ?r1 ?s1 ?u1 ?_)
  case p1 => exact one_str _ _
  case q1 => exact one_cell _
  case r1 => unfold maxLen; simp
  case s1 => simp
  case u1 => simp; omega
  intro v2 w3 hown hgrow _
  have HS2 := Lib.hid (strs_push HSd1.out hown hgrow)
  clear hown hgrow c0 c1 c2 c3 c4 c5 HQ1
  obtain ⟨c0, c1, c2, c3, c4, c5⟩ := (HX1.out.keep HS2.out.2).cells
  have hl : ∀ u ∈ [padL x 1, padL t 2], u.length ≤ 1000 := by
    have p1 := padL_len 3 x 1 (by omega) (by omega) (by omega)
    have p2 := padL_len 5 y 3 (by omega) (by omega) (by omega)
    have p3 := padL_len 2 t 2 (by omega) (by omega) (by omega)
    intro u hu
    simp at hu
    rcases hu with rfl | rfl <;> omega
  obtain ⟨g, cap, rfl, hg1, hg2, hcap, hcell⟩ := HS2.out.open' (by simp)
  have HC := Lib.hid hcell
  have HL := Lib.hid hl
  clear hcell hl
  go_wp2_with fail
  refine (ref_words [padL x 1, padL t 2] g cap _ HC.out (by simp) HL.out).mono ?_
  rintro e w9 ⟨rfl, h9⟩
  have HF : Hid (exL true false true x y t = joinP 32 [padL x 1, padL t 2]) := by
    have h : exL true false true x y t = joinP 32 [padL x 1, padL t 2] := by
      rw [exL, exW_words, if_neg]
      · rfl
      · exact joinP_ne (pad_ne _ _ (by omega)) _
    exact Lib.hid h
  go_wp2_with fail
  exact bodyPost_ret (v := .tuple #[.string (B (joinP 32 [padL x 1, padL t 2])), .int .i64 0]) (by simp [results, Tryd.results31, go_sem]) rfl ⟨by rw [HF.out], (HN.out.trans HS2.out.2).trans h9⟩
set_option maxHeartbeats 1000000 in
theorem ref_PE_ttf (x y t : Nat) (w : World) (hv : validX true true false x y t = true) :
    Calls Tryd.prog 31 #[layV true true false, exV x y t] w fun e w' => e = .returned (.tuple #[.string (B (exL true true false x y t)), .int .i64 0]) ∧ New w w' := by
  obtain ⟨i0, hi, hz0, hz1, hz2⟩ := info_parts info_str
  have HN := Lib.hid (((New.refl w).alloc (.cells #[.bool true, .bool true, .bool false] 43)).alloc (.cells #[.int .i64 x, .int .i64 y, .int .i64 t] 45))
  have HX := Lib.hid (ExAt.new w true true false x y t)
  obtain ⟨-, -, -, b1, b2, b3, -, -, -⟩ := valid_nums hv
  have HV := Lib.hid hv
  clear hv
  unfold layV exV
  go_enter Tryd.func31, Tryd.ntmps31
  go_wp2_with fail
  refine (ref_ValidExchange true true false x y t _).mono ?_
  rintro e w1 ⟨rfl, h1⟩
  rw [HV.out]
  have HX1 := Lib.hid (HX.out.keep h1)
  replace HN := Lib.hid (HN.out.trans h1)
  clear h1 HX
  have HS0 := Lib.hid (StrsAt.nil w1)
  obtain ⟨c0, c1, c2, c3, c4, c5⟩ := HX1.out.cells
  go_wp2_with fail
  refine (ref_Dec x 1 _ (by omega) (by omega) (by omega)).mono ?_
  rintro e w0d ⟨rfl, hd⟩
  have hS0 := HS0.out.keep hd
  have HSd0 := Lib.hid hS0
  clear hS0 c0 c1 c2 c3 c4 c5
  have hn0 := HSd0.out.2
  have hsz0 := hn0.size
  obtain ⟨c0, c1, c2, c3, c4, c5⟩ := (HX1.out.keep hn0).cells
  have HQ0 := Lib.hid (hn0)
  clear hn0 hd
  go_wp2_with (at_builtin; refine wpList_append_own _ rfl (.tmp 13) (.tmp 17) 64 rfl w1.heap.size 9 i0 (.string ⟨#[]⟩) 1 16 Tryd.underlying64 hi hz0 hz1 hz2 rfl (by decide) _ _ _ rfl (HSd0.out.1.alloc _) ⟨w0d.heap.size, 0, none⟩ 1 1 [strV (padL x 1)] rfl rfl ?p0 ?q0 ?r0 ?s0 ?u0 ?_)
  case p0 => exact one_str _ _
  case q0 => exact one_cell _
  case r0 => unfold maxLen; simp
  case s0 => simp
  case u0 => simp; omega
  intro v1 w2 hown hgrow _
  have HS1 := Lib.hid (strs_push HSd0.out hown hgrow)
  clear hown hgrow c0 c1 c2 c3 c4 c5 HQ0
  obtain ⟨c0, c1, c2, c3, c4, c5⟩ := (HX1.out.keep HS1.out.2).cells
  go_wp2_with fail
  refine (ref_Dec y 3 _ (by omega) (by omega) (by omega)).mono ?_
  rintro e w1d ⟨rfl, hd⟩
  have hS1 := HS1.out.keep hd
  have HSd1 := Lib.hid hS1
  clear hS1 c0 c1 c2 c3 c4 c5
  have hn1 := HSd1.out.2
  have hsz1 := hn1.size
  obtain ⟨c0, c1, c2, c3, c4, c5⟩ := (HX1.out.keep hn1).cells
  have HQ1 := Lib.hid (hn1)
  clear hn1 hd
  go_wp2_with (at_builtin; refine wpList_append_own _ rfl (.tmp 21) (.tmp 25) 64 rfl w1.heap.size 9 i0 (.string ⟨#[]⟩) 1 16 Tryd.underlying64 hi hz0 hz1 hz2 rfl (by decide) _ _ _ rfl (HSd1.out.1.alloc _) ⟨w1d.heap.size, 0, none⟩ 1 1 [strV (padL y 3)] rfl rfl ?p1 ?q1 ?r1 ?s1 ?u1 ?_)
  case p1 => exact one_str _ _
  case q1 => exact one_cell _
  case r1 => unfold maxLen; simp
  case s1 => simp
  case u1 => simp; omega
  intro v2 w3 hown hgrow _
  have HS2 := Lib.hid (strs_push HSd1.out hown hgrow)
  clear hown hgrow c0 c1 c2 c3 c4 c5 HQ1
  obtain ⟨c0, c1, c2, c3, c4, c5⟩ := (HX1.out.keep HS2.out.2).cells
  have hl : ∀ u ∈ [padL x 1, padL y 3], u.length ≤ 1000 := by
    have p1 := padL_len 3 x 1 (by omega) (by omega) (by omega)
    have p2 := padL_len 5 y 3 (by omega) (by omega) (by omega)
    have p3 := padL_len 2 t 2 (by omega) (by omega) (by omega)
    intro u hu
    simp at hu
    rcases hu with rfl | rfl <;> omega
  obtain ⟨g, cap, rfl, hg1, hg2, hcap, hcell⟩ := HS2.out.open' (by simp)
  have HC := Lib.hid hcell
  have HL := Lib.hid hl
  clear hcell hl
  go_wp2_with fail
  refine (ref_words [padL x 1, padL y 3] g cap _ HC.out (by simp) HL.out).mono ?_
  rintro e w9 ⟨rfl, h9⟩
  have HF : Hid (exL true true false x y t = joinP 32 [padL x 1, padL y 3]) := by
    have h : exL true true false x y t = joinP 32 [padL x 1, padL y 3] := by
      rw [exL, exW_words, if_neg]
      · rfl
      · exact joinP_ne (pad_ne _ _ (by omega)) _
    exact Lib.hid h
  go_wp2_with fail
  exact bodyPost_ret (v := .tuple #[.string (B (joinP 32 [padL x 1, padL y 3])), .int .i64 0]) (by simp [results, Tryd.results31, go_sem]) rfl ⟨by rw [HF.out], (HN.out.trans HS2.out.2).trans h9⟩
set_option maxHeartbeats 1000000 in
theorem ref_PE_ttt (x y t : Nat) (w : World) (hv : validX true true true x y t = true) :
    Calls Tryd.prog 31 #[layV true true true, exV x y t] w fun e w' => e = .returned (.tuple #[.string (B (exL true true true x y t)), .int .i64 0]) ∧ New w w' := by
  obtain ⟨i0, hi, hz0, hz1, hz2⟩ := info_parts info_str
  have HN := Lib.hid (((New.refl w).alloc (.cells #[.bool true, .bool true, .bool true] 43)).alloc (.cells #[.int .i64 x, .int .i64 y, .int .i64 t] 45))
  have HX := Lib.hid (ExAt.new w true true true x y t)
  obtain ⟨-, -, -, b1, b2, b3, -, -, -⟩ := valid_nums hv
  have HV := Lib.hid hv
  clear hv
  unfold layV exV
  go_enter Tryd.func31, Tryd.ntmps31
  go_wp2_with fail
  refine (ref_ValidExchange true true true x y t _).mono ?_
  rintro e w1 ⟨rfl, h1⟩
  rw [HV.out]
  have HX1 := Lib.hid (HX.out.keep h1)
  replace HN := Lib.hid (HN.out.trans h1)
  clear h1 HX
  have HS0 := Lib.hid (StrsAt.nil w1)
  obtain ⟨c0, c1, c2, c3, c4, c5⟩ := HX1.out.cells
  go_wp2_with fail
  refine (ref_Dec x 1 _ (by omega) (by omega) (by omega)).mono ?_
  rintro e w0d ⟨rfl, hd⟩
  have hS0 := HS0.out.keep hd
  have HSd0 := Lib.hid hS0
  clear hS0 c0 c1 c2 c3 c4 c5
  have hn0 := HSd0.out.2
  have hsz0 := hn0.size
  obtain ⟨c0, c1, c2, c3, c4, c5⟩ := (HX1.out.keep hn0).cells
  have HQ0 := Lib.hid (hn0)
  clear hn0 hd
  go_wp2_with (at_builtin; refine wpList_append_own _ rfl (.tmp 13) (.tmp 17) 64 rfl w1.heap.size 9 i0 (.string ⟨#[]⟩) 1 16 Tryd.underlying64 hi hz0 hz1 hz2 rfl (by decide) _ _ _ rfl (HSd0.out.1.alloc _) ⟨w0d.heap.size, 0, none⟩ 1 1 [strV (padL x 1)] rfl rfl ?p0 ?q0 ?r0 ?s0 ?u0 ?_)
  case p0 => exact one_str _ _
  case q0 => exact one_cell _
  case r0 => unfold maxLen; simp
  case s0 => simp
  case u0 => simp; omega
  intro v1 w2 hown hgrow _
  have HS1 := Lib.hid (strs_push HSd0.out hown hgrow)
  clear hown hgrow c0 c1 c2 c3 c4 c5 HQ0
  obtain ⟨c0, c1, c2, c3, c4, c5⟩ := (HX1.out.keep HS1.out.2).cells
  go_wp2_with fail
  refine (ref_Dec y 3 _ (by omega) (by omega) (by omega)).mono ?_
  rintro e w1d ⟨rfl, hd⟩
  have hS1 := HS1.out.keep hd
  have HSd1 := Lib.hid hS1
  clear hS1 c0 c1 c2 c3 c4 c5
  have hn1 := HSd1.out.2
  have hsz1 := hn1.size
  obtain ⟨c0, c1, c2, c3, c4, c5⟩ := (HX1.out.keep hn1).cells
  have HQ1 := Lib.hid (hn1)
  clear hn1 hd
  go_wp2_with (at_builtin; refine wpList_append_own _ rfl (.tmp 21) (.tmp 25) 64 rfl w1.heap.size 9 i0 (.string ⟨#[]⟩) 1 16 Tryd.underlying64 hi hz0 hz1 hz2 rfl (by decide) _ _ _ rfl (HSd1.out.1.alloc _) ⟨w1d.heap.size, 0, none⟩ 1 1 [strV (padL y 3)] rfl rfl ?p1 ?q1 ?r1 ?s1 ?u1 ?_)
  case p1 => exact one_str _ _
  case q1 => exact one_cell _
  case r1 => unfold maxLen; simp
  case s1 => simp
  case u1 => simp; omega
  intro v2 w3 hown hgrow _
  have HS2 := Lib.hid (strs_push HSd1.out hown hgrow)
  clear hown hgrow c0 c1 c2 c3 c4 c5 HQ1
  obtain ⟨c0, c1, c2, c3, c4, c5⟩ := (HX1.out.keep HS2.out.2).cells
  go_wp2_with fail
  refine (ref_Dec t 2 _ (by omega) (by omega) (by omega)).mono ?_
  rintro e w2d ⟨rfl, hd⟩
  have hS2 := HS2.out.keep hd
  have HSd2 := Lib.hid hS2
  clear hS2 c0 c1 c2 c3 c4 c5
  have hn2 := HSd2.out.2
  have hsz2 := hn2.size
  obtain ⟨c0, c1, c2, c3, c4, c5⟩ := (HX1.out.keep hn2).cells
  have HQ2 := Lib.hid (hn2)
  clear hn2 hd
  go_wp2_with (at_builtin; refine wpList_append_own _ rfl (.tmp 29) (.tmp 33) 64 rfl w1.heap.size 9 i0 (.string ⟨#[]⟩) 1 16 Tryd.underlying64 hi hz0 hz1 hz2 rfl (by decide) _ _ _ rfl (HSd2.out.1.alloc _) ⟨w2d.heap.size, 0, none⟩ 1 1 [strV (padL t 2)] rfl rfl ?p2 ?q2 ?r2 ?s2 ?u2 ?_)
  case p2 => exact one_str _ _
  case q2 => exact one_cell _
  case r2 => unfold maxLen; simp
  case s2 => simp
  case u2 => simp; omega
  intro v3 w4 hown hgrow _
  have HS3 := Lib.hid (strs_push HSd2.out hown hgrow)
  clear hown hgrow c0 c1 c2 c3 c4 c5 HQ2
  obtain ⟨c0, c1, c2, c3, c4, c5⟩ := (HX1.out.keep HS3.out.2).cells
  have hl : ∀ u ∈ [padL x 1, padL y 3, padL t 2], u.length ≤ 1000 := by
    have p1 := padL_len 3 x 1 (by omega) (by omega) (by omega)
    have p2 := padL_len 5 y 3 (by omega) (by omega) (by omega)
    have p3 := padL_len 2 t 2 (by omega) (by omega) (by omega)
    intro u hu
    simp at hu
    rcases hu with rfl | rfl | rfl <;> omega
  obtain ⟨g, cap, rfl, hg1, hg2, hcap, hcell⟩ := HS3.out.open' (by simp)
  have HC := Lib.hid hcell
  have HL := Lib.hid hl
  clear hcell hl
  go_wp2_with fail
  refine (ref_words [padL x 1, padL y 3, padL t 2] g cap _ HC.out (by simp) HL.out).mono ?_
  rintro e w9 ⟨rfl, h9⟩
  have HF : Hid (exL true true true x y t = joinP 32 [padL x 1, padL y 3, padL t 2]) := by
    have h : exL true true true x y t = joinP 32 [padL x 1, padL y 3, padL t 2] := by
      rw [exL, exW_words, if_neg]
      · rfl
      · exact joinP_ne (pad_ne _ _ (by omega)) _
    exact Lib.hid h
  go_wp2_with fail
  exact bodyPost_ret (v := .tuple #[.string (B (joinP 32 [padL x 1, padL y 3, padL t 2])), .int .i64 0]) (by simp [results, Tryd.results31, go_sem]) rfl ⟨by rw [HF.out], (HN.out.trans HS3.out.2).trans h9⟩
theorem ref_PrintExchange (r s z : Bool) (a b c : Int) (w : World) :
    Calls Tryd.prog 31 #[layV r s z, exV a b c] w fun e w' => e = .returned (.tuple #[.string (B (textV (printX r s z a b c))), .int .i64 (errV 1 (printX r s z a b c))]) ∧ New w w' := by
  cases hv : validX r s z a b c with
  | false =>
    have HN := Lib.hid (((New.refl w).alloc (.cells #[.bool r, .bool s, .bool z] 43)).alloc (.cells #[.int .i64 a, .int .i64 b, .int .i64 c] 45))
    have HE : Hid (printX r s z a b c = none) := by
      have h : printX r s z a b c = none := by unfold printX; rw [hv]; rfl
      exact Lib.hid h
    unfold layV exV
    go_enter Tryd.func31, Tryd.ntmps31
    go_wp2_with fail
    refine (ref_ValidExchange r s z a b c _).mono ?_
    rintro e w1 ⟨rfl, h1⟩
    rw [hv]
    clear hv
    go_wp2_with fail
    exact bodyPost_ret (v := .tuple #[.string (B []), .int .i64 1]) (by simp [results, Tryd.results31, go_sem]; rfl) rfl ⟨by rw [HE.out]; rfl, HN.out.trans h1⟩
  | true =>
    have hn := valid_nums hv
    obtain ⟨x, rfl⟩ : ∃ x : Nat, a = x := ⟨a.toNat, by omega⟩
    obtain ⟨y, rfl⟩ : ∃ x : Nat, b = x := ⟨b.toNat, by omega⟩
    obtain ⟨t, rfl⟩ : ∃ x : Nat, c = x := ⟨c.toNat, by omega⟩
    have h : printX r s z x y t = some (exL r s z x y t) := by unfold printX; rw [hv]; rfl
    rw [h]
    cases r <;> cases s <;> cases z
    · exact ref_PE_fff x y t w hv
    · exact ref_PE_fft x y t w hv
    · exact ref_PE_ftf x y t w hv
    · exact ref_PE_ftt x y t w hv
    · exact ref_PE_tff x y t w hv
    · exact ref_PE_tft x y t w hv
    · exact ref_PE_ttf x y t w hv
    · exact ref_PE_ttt x y t w hv

end Go.Proofs.YtcaljokcgfkppaaDoor
