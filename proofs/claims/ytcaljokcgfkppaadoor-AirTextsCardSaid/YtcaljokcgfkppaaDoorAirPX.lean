/-
  ParseExchange of the program, for all layouts and texts of less than 2 to the power of 32 bytes, in a world that has the library's MaxLen and its table of powers of ten.
-/
import Derived.Test.YtcaljokcgfkppaaDoorAirPE
import Derived.Test.YtcaljokcgfkppaaDoorRefPX
namespace Go.Proofs.YtcaljokcgfkppaaDoor
open Go.RowKit
/-- What is left to read behind the first k parts. -/
def contX (k : Nat) (r s z : Bool) (l rest : Bytes) (a b c : Nat) : Option (Int × Int × Int) :=
  match k with
  | 0 => match readK r 599 rest with
    | none => none
    | some (a, l1) => match readK s 99999 l1 with
      | none => none
      | some (b, l2) => match readK z 99 l2 with
        | none => none
        | some (c, _) => backX r s z l a b c
  | 1 => match readK s 99999 rest with
    | none => none
    | some (b, l2) => match readK z 99 l2 with
      | none => none
      | some (c, _) => backX r s z l a b c
  | 2 => match readK z 99 rest with
    | none => none
    | some (c, _) => backX r s z l a b c
  | _ => backX r s z l a b c
/-- The numbers that are not read yet are 0. -/
def Unread (k a b c : Nat) : Prop := (k ≤ 0 → a = 0) ∧ (k ≤ 1 → b = 0) ∧ (k ≤ 2 → c = 0)
theorem readK_yes (most : Nat) (rest : Bytes) : (∀ n, numO most (Lib.cut rest [32]).1 = some n → readK true most rest = some (n, (Lib.cut rest [32]).2.1)) ∧ (numO most (Lib.cut rest [32]).1 = none → readK true most rest = none) := by
  unfold readK
  rw [if_pos rfl]
  refine ⟨fun n h => ?_, fun h => ?_⟩ <;> rw [h]
theorem Num3.free {w : World} {g : Nat} {a b c : Int} (h : Num3 w g a b c) : w.frozen? ⟨g, 0, none⟩ = false ∧ w.frozen? ⟨g, 1, none⟩ = false ∧ w.frozen? ⟨g, 2, none⟩ = false := by
  unfold Num3 at h
  refine ⟨?_, ?_, ?_⟩ <;> simp [World.frozen?, h]
theorem Num3.set0 {w : World} {g : Nat} {a b c x : Int} (h : Num3 w g a b c) : Num3 (w.setCell ⟨g, 0, none⟩ (.int .i64 x)) g x b c := by
  unfold Num3 at h ⊢
  simp [World.setCell, Array.getElem?_modify, h]
theorem Num3.set1 {w : World} {g : Nat} {a b c x : Int} (h : Num3 w g a b c) : Num3 (w.setCell ⟨g, 1, none⟩ (.int .i64 x)) g a x c := by
  unfold Num3 at h ⊢
  simp [World.setCell, Array.getElem?_modify, h]
theorem Num3.set2 {w : World} {g : Nat} {a b c x : Int} (h : Num3 w g a b c) : Num3 (w.setCell ⟨g, 2, none⟩ (.int .i64 x)) g a b x := by
  unfold Num3 at h ⊢
  simp [World.setCell, Array.getElem?_modify, h]
set_option maxHeartbeats 8000000 in
theorem air_ParseExchange (r s z : Bool) (t : ByteArray) (w : World) (hm : HasMax w) (hpow : HasPow w) (hs : t.size < 4294967281) :
    Calls Tryd.prog 32 #[layV r s z, .string t] w fun e w' => e = .returned (.tuple #[exO (parseX r s z (bs t)), .int .i64 (exE (parseX r s z (bs t)))]) ∧ New w w' := by
  have hz := bs_size t
  have HM := Lib.hid hm
  have HP := Lib.hid hpow
  clear hm hpow
  have HN := Lib.hid (((New.refl w).alloc (.cells #[.bool r, .bool s, .bool z] 43)).alloc (.cells #[.int .i64 0, .int .i64 0, .int .i64 0] 45))
  have HX := Lib.hid (ExAt.new w r s z 0 0 0)
  have hw0 : ((w.alloc (.cells #[.bool r, .bool s, .bool z] 43)).alloc (.cells #[.int .i64 0, .int .i64 0, .int .i64 0] 45)).heap.size = w.heap.size + 1 + 1 := by simp
  have HW0 := Lib.hid hw0
  clear hw0
  unfold layV
  go_enter Tryd.func32, Tryd.ntmps32
  go_wp2_with fail
  refine (air_partsOf r s z _).mono ?_
  rintro e w2 ⟨rfl, h2⟩
  have HA : Hid (Num3 (((w.alloc (.cells #[.bool r, .bool s, .bool z] 43)).alloc (.cells #[.int .i64 0, .int .i64 0, .int .i64 0] 45)).alloc (.cells #[.int .i64 0, .int .i64 0, .int .i64 0] 84)) ((w.alloc (.cells #[.bool r, .bool s, .bool z] 43)).alloc (.cells #[.int .i64 0, .int .i64 0, .int .i64 0] 45)).heap.size 0 0 0) := Lib.hid (heap_alloc_new _ _)
  have HG := HA.out.keep h2
  rw [HW0.out] at HG
  have HG2 : Hid (Num3 w2 (w.heap.size + 1 + 1) 0 0 0) := Lib.hid HG
  have hA3 := (New.refl ((w.alloc (.cells #[.bool r, .bool s, .bool z] 43)).alloc (.cells #[.int .i64 0, .int .i64 0, .int .i64 0] 45))).alloc (.cells #[.int .i64 0, .int .i64 0, .int .i64 0] 84)
  have HNW := Lib.hid (hA3.trans h2)
  clear h2 HG HA hA3
  generalize (w.alloc (.cells #[.bool r, .bool s, .bool z] 43)).alloc (.cells #[.int .i64 0, .int .i64 0, .int .i64 0] 45) = W0 at *
  have HG6 : Hid (W0.heap.size ≤ w.heap.size + 1 + 1) := Lib.hid (by rw [HW0.out]; exact Nat.le_refl _)
  have HM0 := Lib.hid (HM.out.keep HN.out)
  have HP0 := Lib.hid (HP.out.keep HN.out)
  clear HM HP HW0
  have hp0 := part0 r s z
  have hp1 := part1 r s z
  have hp2 := part2 r s z
  have HP0' := Lib.hid hp0
  have HP1' := Lib.hid hp1
  have HP2' := Lib.hid hp2
  clear hp0 hp1 hp2
  generalize partsA r s z = PA at *
  generalize w.heap.size + 1 + 1 = g6 at *
  go_wp2_with fail
  go_loopw [7, 19] (fun rs x wr => ∃ (k : Nat) (rest : Bytes) (a b c : Nat), k ≤ 3 ∧ x = .int .i64 k ∧ rs = .string (B rest) ∧ rest.length ≤ t.size ∧ parseX r s z (bs t) = contX k r s z (bs t) rest a b c ∧ Unread k a b c ∧ Num3 wr g6 a b c ∧ New W0 wr) (fun _ x _ => 3 - (intOf x).toNat)
  case atStart => exact ⟨0, bs t, 0, 0, 0, by omega, rfl, by rw [B_bs], by omega, rfl, ⟨fun _ => rfl, fun _ => rfl, fun _ => rfl⟩, HG2.out, HNW.out⟩
  case round =>
    obtain ⟨k, rest, a, b, c, hk, rfl, rfl, hrl, hpar, hun, hnum, hnew⟩ := hrel
    have HPR := Lib.hid hpar
    have HNM := Lib.hid hnum
    have HNR := Lib.hid hnew
    clear hpar hnum hnew
    have hk4 : k = 0 ∨ k = 1 ∨ k = 2 ∨ k = 3 := by omega
    rcases hk4 with rfl | rfl | rfl | rfl
    · obtain ⟨e0, e1, e2⟩ := hun
      have e0 := e0 (by omega); have e1 := e1 (by omega); have e2 := e2 (by omega)
      subst e0 e1 e2
      have hpk := HP0'.out
      cases hr : r with
      | false =>
        rw [hr] at hpk
        have ht : contX 0 r s z (bs t) rest 0 0 0 = contX 1 r s z (bs t) rest 0 0 0 := by
          rw [hr]; rfl
        have HF := Lib.hid (HPR.out.trans ht)
        clear ht
        go_wp2_with fail
        exact ⟨⟨1, rest, 0, 0, 0, by omega, rfl, rfl, hrl, by have h := HF.out; rw [hr] at h; exact h, ⟨fun h => by omega, fun _ => rfl, fun _ => rfl⟩, HNM.out.keep ((New.refl _).alloc _), HNR.out.alloc _⟩, by simp [intOf]⟩
      | true =>
        rw [hr] at hpk
        have HPP : Hid (Part3 (wr.alloc (.cells #[.bool true, .int .i64 599, .int .i64 1] 87)) wr.heap.size true 599 1) := Lib.hid (heap_alloc_new wr _)
        have HNA := Lib.hid (HNR.out.alloc (.cells #[.bool true, .int .i64 599, .int .i64 1] 87))
        have HNN := Lib.hid (HNM.out.keep ((New.refl wr).alloc (.cells #[.bool true, .int .i64 599, .int .i64 1] 87)))
        have hsr := B_size rest
        go_wp2_with fail
        obtain ⟨m, hmx⟩ := HM0.out.keep HNA.out
        refine (Tryd.strings_Cut (B rest) ⟨#[32]⟩ m _ (by omega) hmx).mono ?_
        rintro e w4 ⟨rfl, q, rfl⟩
        have e1 : (⟨(Lib.cut (B rest).data.toList (⟨#[32]⟩ : ByteArray).data.toList).1.toArray⟩ : ByteArray) = B (Lib.cut rest [32]).1 := rfl
        have e2 : (⟨(Lib.cut (B rest).data.toList (⟨#[32]⟩ : ByteArray).data.toList).2.1.toArray⟩ : ByteArray) = B (Lib.cut rest [32]).2.1 := rfl
        rw [e1, e2]
        generalize (Lib.cut (B rest).data.toList (⟨#[32]⟩ : ByteArray).data.toList).2.2 = fnd at *
        have hcl := cut_le rest [32]
        have HRK := Lib.hid (readK_yes 599 rest)
        generalize (Lib.cut rest [32]).1 = x at *
        generalize (Lib.cut rest [32]).2.1 = y at *
        obtain ⟨q0, q1, q2⟩ := HPP.out.cells
        clear e1 e2 hmx
        go_wp2_with fail
        refine (air_readNumber (B x) 599 _ (by rw [B_size]; omega) (by omega)).mono ?_
        rintro e w5 ⟨rfl, h5⟩
        rw [bs_B]
        have h5' := ((New.refl _).drewN q).trans h5
        have HN5 := Lib.hid (HNA.out.trans h5')
        have HM5 := Lib.hid (HNN.out.keep h5')
        clear h5 h5' q0 q1 q2
        cases hx : numO 599 x with
        | none =>
          have ht : contX 0 r s z (bs t) rest 0 0 0 = none := by
            simp only [contX, hr, HRK.out.2 hx]
          have HE2 := Lib.hid (HPR.out.trans ht)
          have HR2 : Hid (Ex3 w5 (w.heap.size + 1) 0 0 0) := Lib.hid (Ex3.keep HX.out.2 HN5.out)
          obtain ⟨r0, r1, r2, f0, f1, f2⟩ := HR2.out.cells
          clear ht hx
          go_wp2_with fail
          clear r0 r1 r2 f0 f1 f2
          obtain ⟨n3, hc⟩ := ex_store (x := 0) (y := 0) (t := 0) (HN.out.trans HN5.out) (Nat.le_succ _) HR2.out
          obtain ⟨c0, c1, c2, -, -, -⟩ := hc.cells
          refine bodyPost_ret (v := .tuple #[exV 0 0 0, .int .i64 1]) (by simp [results, Tryd.results32, go_sem, exV, c0, c1, c2]) rfl ⟨by rw [HE2.out]; rfl, n3⟩
        | some n =>
          have ht : contX 0 r s z (bs t) rest 0 0 0 = contX 1 r s z (bs t) y n 0 0 := by
            simp only [contX, hr, HRK.out.1 n hx]
          have HF := Lib.hid (HPR.out.trans ht)
          have HNX := Lib.hid (HM5.out.set0 (x := (n : Int)))
          have HNS : Hid (New W0 (w5.setCell ⟨g6, 0, none⟩ (.int .i64 n))) := Lib.hid (HN5.out.setCell HG6.out _)
          obtain ⟨u0, u1, u2⟩ := HM5.out.cells
          obtain ⟨v0, v1, v2⟩ := HM5.out.free
          clear ht hx
          go_wp2_with fail
          exact ⟨⟨1, y, n, 0, 0, by omega, rfl, rfl, by omega, by have h := HF.out; rw [hr] at h; exact h, ⟨fun h => by omega, fun _ => rfl, fun _ => rfl⟩, HNX.out, HNS.out⟩, by simp [intOf]⟩
    · obtain ⟨-, e1, e2⟩ := hun
      have e1 := e1 (by omega); have e2 := e2 (by omega)
      subst e1 e2
      have hpk := HP1'.out
      cases hs : s with
      | false =>
        rw [hs] at hpk
        have ht : contX 1 r s z (bs t) rest a 0 0 = contX 2 r s z (bs t) rest a 0 0 := by
          rw [hs]; rfl
        have HF := Lib.hid (HPR.out.trans ht)
        clear ht
        go_wp2_with fail
        exact ⟨⟨2, rest, a, 0, 0, by omega, rfl, rfl, hrl, by have h := HF.out; rw [hs] at h; exact h, ⟨fun h => by omega, fun h => by omega, fun _ => rfl⟩, HNM.out.keep ((New.refl _).alloc _), HNR.out.alloc _⟩, by simp [intOf]⟩
      | true =>
        rw [hs] at hpk
        have HPP : Hid (Part3 (wr.alloc (.cells #[.bool true, .int .i64 99999, .int .i64 3] 87)) wr.heap.size true 99999 3) := Lib.hid (heap_alloc_new wr _)
        have HNA := Lib.hid (HNR.out.alloc (.cells #[.bool true, .int .i64 99999, .int .i64 3] 87))
        have HNN := Lib.hid (HNM.out.keep ((New.refl wr).alloc (.cells #[.bool true, .int .i64 99999, .int .i64 3] 87)))
        have hsr := B_size rest
        go_wp2_with fail
        obtain ⟨m, hmx⟩ := HM0.out.keep HNA.out
        refine (Tryd.strings_Cut (B rest) ⟨#[32]⟩ m _ (by omega) hmx).mono ?_
        rintro e w4 ⟨rfl, q, rfl⟩
        have e1 : (⟨(Lib.cut (B rest).data.toList (⟨#[32]⟩ : ByteArray).data.toList).1.toArray⟩ : ByteArray) = B (Lib.cut rest [32]).1 := rfl
        have e2 : (⟨(Lib.cut (B rest).data.toList (⟨#[32]⟩ : ByteArray).data.toList).2.1.toArray⟩ : ByteArray) = B (Lib.cut rest [32]).2.1 := rfl
        rw [e1, e2]
        generalize (Lib.cut (B rest).data.toList (⟨#[32]⟩ : ByteArray).data.toList).2.2 = fnd at *
        have hcl := cut_le rest [32]
        have HRK := Lib.hid (readK_yes 99999 rest)
        generalize (Lib.cut rest [32]).1 = x at *
        generalize (Lib.cut rest [32]).2.1 = y at *
        obtain ⟨q0, q1, q2⟩ := HPP.out.cells
        clear e1 e2 hmx
        go_wp2_with fail
        refine (air_readNumber (B x) 99999 _ (by rw [B_size]; omega) (by omega)).mono ?_
        rintro e w5 ⟨rfl, h5⟩
        rw [bs_B]
        have h5' := ((New.refl _).drewN q).trans h5
        have HN5 := Lib.hid (HNA.out.trans h5')
        have HM5 := Lib.hid (HNN.out.keep h5')
        clear h5 h5' q0 q1 q2
        cases hx : numO 99999 x with
        | none =>
          have ht : contX 1 r s z (bs t) rest a 0 0 = none := by
            simp only [contX, hs, HRK.out.2 hx]
          have HE2 := Lib.hid (HPR.out.trans ht)
          have HR2 : Hid (Ex3 w5 (w.heap.size + 1) 0 0 0) := Lib.hid (Ex3.keep HX.out.2 HN5.out)
          obtain ⟨r0, r1, r2, f0, f1, f2⟩ := HR2.out.cells
          clear ht hx
          go_wp2_with fail
          clear r0 r1 r2 f0 f1 f2
          obtain ⟨n3, hc⟩ := ex_store (x := 0) (y := 0) (t := 0) (HN.out.trans HN5.out) (Nat.le_succ _) HR2.out
          obtain ⟨c0, c1, c2, -, -, -⟩ := hc.cells
          refine bodyPost_ret (v := .tuple #[exV 0 0 0, .int .i64 1]) (by simp [results, Tryd.results32, go_sem, exV, c0, c1, c2]) rfl ⟨by rw [HE2.out]; rfl, n3⟩
        | some n =>
          have ht : contX 1 r s z (bs t) rest a 0 0 = contX 2 r s z (bs t) y a n 0 := by
            simp only [contX, hs, HRK.out.1 n hx]
          have HF := Lib.hid (HPR.out.trans ht)
          have HNX := Lib.hid (HM5.out.set1 (x := (n : Int)))
          have HNS : Hid (New W0 (w5.setCell ⟨g6, 1, none⟩ (.int .i64 n))) := Lib.hid (HN5.out.setCell HG6.out _)
          obtain ⟨u0, u1, u2⟩ := HM5.out.cells
          obtain ⟨v0, v1, v2⟩ := HM5.out.free
          clear ht hx
          go_wp2_with fail
          exact ⟨⟨2, y, a, n, 0, by omega, rfl, rfl, by omega, by have h := HF.out; rw [hs] at h; exact h, ⟨fun h => by omega, fun h => by omega, fun _ => rfl⟩, HNX.out, HNS.out⟩, by simp [intOf]⟩
    · obtain ⟨-, -, e2⟩ := hun
      have e2 := e2 (by omega)
      subst e2
      have hpk := HP2'.out
      cases hz : z with
      | false =>
        rw [hz] at hpk
        have ht : contX 2 r s z (bs t) rest a b 0 = contX 3 r s z (bs t) rest a b 0 := by
          rw [hz]; rfl
        have HF := Lib.hid (HPR.out.trans ht)
        clear ht
        go_wp2_with fail
        exact ⟨⟨3, rest, a, b, 0, by omega, rfl, rfl, hrl, by have h := HF.out; rw [hz] at h; exact h, ⟨fun h => by omega, fun h => by omega, fun h => by omega⟩, HNM.out.keep ((New.refl _).alloc _), HNR.out.alloc _⟩, by simp [intOf]⟩
      | true =>
        rw [hz] at hpk
        have HPP : Hid (Part3 (wr.alloc (.cells #[.bool true, .int .i64 99, .int .i64 2] 87)) wr.heap.size true 99 2) := Lib.hid (heap_alloc_new wr _)
        have HNA := Lib.hid (HNR.out.alloc (.cells #[.bool true, .int .i64 99, .int .i64 2] 87))
        have HNN := Lib.hid (HNM.out.keep ((New.refl wr).alloc (.cells #[.bool true, .int .i64 99, .int .i64 2] 87)))
        have hsr := B_size rest
        go_wp2_with fail
        obtain ⟨m, hmx⟩ := HM0.out.keep HNA.out
        refine (Tryd.strings_Cut (B rest) ⟨#[32]⟩ m _ (by omega) hmx).mono ?_
        rintro e w4 ⟨rfl, q, rfl⟩
        have e1 : (⟨(Lib.cut (B rest).data.toList (⟨#[32]⟩ : ByteArray).data.toList).1.toArray⟩ : ByteArray) = B (Lib.cut rest [32]).1 := rfl
        have e2 : (⟨(Lib.cut (B rest).data.toList (⟨#[32]⟩ : ByteArray).data.toList).2.1.toArray⟩ : ByteArray) = B (Lib.cut rest [32]).2.1 := rfl
        rw [e1, e2]
        generalize (Lib.cut (B rest).data.toList (⟨#[32]⟩ : ByteArray).data.toList).2.2 = fnd at *
        have hcl := cut_le rest [32]
        have HRK := Lib.hid (readK_yes 99 rest)
        generalize (Lib.cut rest [32]).1 = x at *
        generalize (Lib.cut rest [32]).2.1 = y at *
        obtain ⟨q0, q1, q2⟩ := HPP.out.cells
        clear e1 e2 hmx
        go_wp2_with fail
        refine (air_readNumber (B x) 99 _ (by rw [B_size]; omega) (by omega)).mono ?_
        rintro e w5 ⟨rfl, h5⟩
        rw [bs_B]
        have h5' := ((New.refl _).drewN q).trans h5
        have HN5 := Lib.hid (HNA.out.trans h5')
        have HM5 := Lib.hid (HNN.out.keep h5')
        clear h5 h5' q0 q1 q2
        cases hx : numO 99 x with
        | none =>
          have ht : contX 2 r s z (bs t) rest a b 0 = none := by
            simp only [contX, hz, HRK.out.2 hx]
          have HE2 := Lib.hid (HPR.out.trans ht)
          have HR2 : Hid (Ex3 w5 (w.heap.size + 1) 0 0 0) := Lib.hid (Ex3.keep HX.out.2 HN5.out)
          obtain ⟨r0, r1, r2, f0, f1, f2⟩ := HR2.out.cells
          clear ht hx
          go_wp2_with fail
          clear r0 r1 r2 f0 f1 f2
          obtain ⟨n3, hc⟩ := ex_store (x := 0) (y := 0) (t := 0) (HN.out.trans HN5.out) (Nat.le_succ _) HR2.out
          obtain ⟨c0, c1, c2, -, -, -⟩ := hc.cells
          refine bodyPost_ret (v := .tuple #[exV 0 0 0, .int .i64 1]) (by simp [results, Tryd.results32, go_sem, exV, c0, c1, c2]) rfl ⟨by rw [HE2.out]; rfl, n3⟩
        | some n =>
          have ht : contX 2 r s z (bs t) rest a b 0 = contX 3 r s z (bs t) y a b n := by
            simp only [contX, hz, HRK.out.1 n hx]
          have HF := Lib.hid (HPR.out.trans ht)
          have HNX := Lib.hid (HM5.out.set2 (x := (n : Int)))
          have HNS : Hid (New W0 (w5.setCell ⟨g6, 2, none⟩ (.int .i64 n))) := Lib.hid (HN5.out.setCell HG6.out _)
          obtain ⟨u0, u1, u2⟩ := HM5.out.cells
          obtain ⟨v0, v1, v2⟩ := HM5.out.free
          clear ht hx
          go_wp2_with fail
          exact ⟨⟨3, y, a, b, n, by omega, rfl, rfl, by omega, by have h := HF.out; rw [hz] at h; exact h, ⟨fun h => by omega, fun h => by omega, fun h => by omega⟩, HNX.out, HNS.out⟩, by simp [intOf]⟩
    · have HE : Hid (parseX r s z (bs t) = backX r s z (bs t) a b c) := Lib.hid HPR.out
      obtain ⟨u0, u1, u2⟩ := HNM.out.cells
      have HL1 : Hid (Lay3 wr w.heap.size r s z) := Lib.hid (Lay3.keep HX.out.1 HNR.out)
      have HR1 : Hid (Ex3 wr (w.heap.size + 1) 0 0 0) := Lib.hid (Ex3.keep HX.out.2 HNR.out)
      obtain ⟨l0, l1, l2⟩ := HL1.out.cells
      have k0 := fun o => cell_alloc l0 o
      have k1 := fun o => cell_alloc l1 o
      have k2 := fun o => cell_alloc l2 o
      have z0 := fun o => cell_alloc u0 o
      have z1 := fun o => cell_alloc u1 o
      have z2 := fun o => cell_alloc u2 o
      clear l0 l1 l2
      have HY := Lib.hid (Ex3.new wr a b c)
      have HN1 := Lib.hid ((New.refl wr).alloc (.cells #[.int .i64 a, .int .i64 b, .int .i64 c] 45))
      have HPA := Lib.hid ((HP0.out.keep HNR.out).keep HN1.out)
      go_wp2_with fail
      refine (air_PrintExchange r s z a b c _ HPA.out).mono ?_
      rintro e w2 ⟨rfl, h2⟩
      have HY2 := Lib.hid (HY.out.keep h2)
      have HR2 := Lib.hid (HR1.out.keep (HN1.out.trans h2))
      have HN2 := Lib.hid (HN.out.trans (HNR.out.trans (HN1.out.trans h2)))
      clear h2 HY HN1 k0 k1 k2 u0 u1 u2 z0 z1 z2
      obtain ⟨y0, y1, y2, -, -, -⟩ := HY2.out.cells
      obtain ⟨r0, r1, r2, f0, f1, f2⟩ := HR2.out.cells
      cases hp : printX r s z a b c with
      | none =>
        have HE2 : Hid (parseX r s z (bs t) = none) := by
          have h := HE.out
          unfold backX at h
          rw [hp] at h
          exact Lib.hid h
        clear hp
        simp only [errV, textV]
        go_wp2_with fail
        clear y0 y1 y2 r0 r1 r2 f0 f1 f2
        obtain ⟨n3, hc⟩ := ex_store (x := 0) (y := 0) (t := 0) HN2.out (Nat.le_succ _) HR2.out
        obtain ⟨c0, c1, c2, -, -, -⟩ := hc.cells
        refine bodyPost_ret (v := .tuple #[exV 0 0 0, .int .i64 1]) (by simp [results, Tryd.results32, go_sem, exV, c0, c1, c2]) rfl ⟨by rw [HE2.out]; rfl, n3⟩
      | some l =>
        simp only [errV, textV]
        by_cases hl : l = bs t
        · have HE2 : Hid (parseX r s z (bs t) = some ((a : Int), (b : Int), (c : Int))) := by
            have h := HE.out
            unfold backX at h
            rw [hp, hl, if_pos rfl] at h
            exact Lib.hid h
          have hB : B l = t := by rw [hl, B_bs]
          clear hp hl
          rw [hB]
          clear hB
          go_wp2_with fail
          clear y0 y1 y2 r0 r1 r2 f0 f1 f2
          obtain ⟨n3, hc⟩ := ex_store (x := (a : Int)) (y := (b : Int)) (t := (c : Int)) HN2.out (Nat.le_succ _) HR2.out
          obtain ⟨c0, c1, c2, -, -, -⟩ := hc.cells
          refine bodyPost_ret (v := .tuple #[exV a b c, .int .i64 0]) (by simp [results, Tryd.results32, go_sem, exV, c0, c1, c2]) rfl ⟨by rw [HE2.out]; rfl, n3⟩
        · have HE2 : Hid (parseX r s z (bs t) = none) := by
            have h := HE.out
            unfold backX at h
            rw [hp, if_neg (by intro e; injection e with e; exact hl e)] at h
            exact Lib.hid h
          have hB : ((B l).toList == t.toList) = false := by
            rw [Lib.toList_data, Lib.toList_data, beq_eq_false_iff_ne]
            intro h
            exact hl h
          clear hp hl
          go_wp2_with fail
          clear y0 y1 y2 r0 r1 r2 f0 f1 f2
          obtain ⟨n3, hc⟩ := ex_store (x := 0) (y := 0) (t := 0) HN2.out (Nat.le_succ _) HR2.out
          obtain ⟨c0, c1, c2, -, -, -⟩ := hc.cells
          refine bodyPost_ret (v := .tuple #[exV 0 0 0, .int .i64 1]) (by simp [results, Tryd.results32, go_sem, exV, c0, c1, c2]) rfl ⟨by rw [HE2.out]; rfl, n3⟩

end Go.Proofs.YtcaljokcgfkppaaDoor
