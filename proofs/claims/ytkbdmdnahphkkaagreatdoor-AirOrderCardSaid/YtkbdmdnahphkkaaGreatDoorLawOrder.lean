/-
  The law AirOrder returns true for every list of rows, every turn, every text and every day, and leaves its input as it was. Conditions: those of its given row and card, no other.
-/
import Derived.Test.YtkbdmdnahphkkaaGreatDoorRow
import Derived.Test.YtkbdmdnahphkkaaGreatDoorOpenRows
import Derived.Test.YtkbdmdnahphkkaaGreatDoorTabRefP
import Derived.Test.YtkbdmdnahphkkaaGreatDoorTabSince
import Derived.Test.YtkbdmdnahphkkaaGreatDoorTabOwn
namespace Go.Proofs.YtkbdmdnahphkkaaGreatDoor
open Go.RowKit
open Go.ChangeShapes Go.WideShapes Go.ChangeAt Go.Deep
theorem pl3_aggO (o : Option (Int × Int × Int)) : ∃ x y z : Int, pl3 o = .agg #[.int .i64 x, .int .i64 y, .int .i64 z] := by
  cases o with
  | none => exact ⟨0, 0, 0, rfl⟩
  | some p => exact ⟨p.1, p.2.1, p.2.2, rfl⟩
theorem rot_ask {l : List Rw} {s : Nat} (hs : s < l.length) (h : tabB l = true) (o : Option P4) (d : Int) : askV (rotV l s) o d = askV l o d := by
  unfold askV
  rw [h, rot_tab hs h]
theorem rot_plR {l : List Rw} {s : Nat} (hs : s < l.length) (h : tabB l = true) (call : Bytes) (d : Int) : plR (rotV l s) call d = plR l call d := by
  unfold plR
  rw [rot_ask hs h]
  cases splitV call with
  | none => rfl
  | some q =>
    dsimp only
    rw [rot_place hs h]
theorem rot_since {l : List Rw} {s : Nat} (hs : s < l.length) (h : tabB l = true) {call : Bytes} {d lo hi er lo' hi' er' : Int} (h1 : sinceP l call d lo hi er) (h2 : sinceP (rotV l s) call d lo' hi' er') : lo' = lo ∧ hi' = hi ∧ er' = er := by
  rcases h1 with ⟨a, b, rfl, rfl⟩ | ⟨rfl, q, p, hx, hq, hr, hsp⟩
  · rcases h2 with ⟨_, b2, rfl, rfl⟩ | ⟨rfl, q2, p2, hx2, hq2, hr2, _⟩
    · rw [rot_plR hs h] at b2
      exact ⟨rfl, rfl, b2.symm.trans b⟩
    · rw [rot_ask hs h] at hx2
      rw [rot_place hs h] at hr2
      rw [plR_some hx2 hq2 hr2] at b
      exact (a b.symm).elim
  · rcases h2 with ⟨a2, b2, _⟩ | ⟨rfl, q2, p2, hx2, hq2, hr2, hsp2⟩
    · rw [rot_plR hs h, plR_some hx hq hr] at b2
      exact (a2 b2.symm).elim
    · rw [hq] at hq2
      cases hq2
      rw [rot_place hs h, hr] at hr2
      cases hr2
      have hsp3 : SpanV (fun x => atV l call (stemV q) x = some p) d lo' hi' := ⟨hsp2.le1, hsp2.le2, fun x a b => by have := hsp2.all x a b; rwa [rot_place hs h] at this, fun g => hsp2.low (by rw [rot_place hs h]; exact g), fun g => hsp2.high (by rw [rot_place hs h]; exact g)⟩
      obtain ⟨a, b⟩ := span_one hsp hsp3 hsp.le1 hsp.le2
      exact ⟨a.symm, b.symm, rfl⟩
theorem rot_take {l : List Rw} {s k : Nat} {r : Rw} (hk : k < l.length) (hr : l[(k + s) % l.length]? = some r) : (rotV l s).take (k + 1) = (rotV l s).take k ++ [r] := by
  have h1 : (rotV l s)[k]? = some r := by
    have h2 := rot_at (l := l) (s := s) hk
    have h3 : rowN l ((k + s) % l.length) = r := by simp [rowN, List.getD, hr]
    rw [h3] at h2
    have h4 : k < (rotV l s).length := by rw [rot_len]; exact hk
    rw [List.getElem?_eq_getElem h4]
    unfold rowN at h2
    rw [List.getD_eq_getElem?_getD, List.getElem?_eq_getElem h4] at h2
    exact congrArg some h2
  rw [List.take_add_one, h1]
  rfl
set_option maxRecDepth 100000 in
set_option maxHeartbeats 8000000 in
theorem law_order (A : Option Addr) (n c : Nat) (l : List Rw) (turn : Int) (call : Bytes) (d : Int) (w : World) (hm : HasMax w) (hl : RowsAt w A n l) (ht : TextsIn l) (hn : n ≤ c) (hc : c ≤ 9223372036854775807) (hs : call.length ≤ maxLen) (htn : -9223372036854775808 ≤ turn ∧ turn ≤ 9223372036854775807) :
    Calls Tryz.prog 7 #[.slice A n c, .int .i64 turn, .string (B call), .int .i64 d] w fun e w' => e = .returned (.bool true) ∧ New w w' := by
  have HL := Lib.hid hl
  have HLN := Lib.hid hl.1
  have HMX := Lib.hid hm
  have hn9 : n ≤ 9223372036854775807 := by omega
  have sc := B_size call
  obtain ⟨htn1, htn2⟩ := htn
  obtain ⟨i0, hi, hz0, hz1, hz2⟩ := bytes_p
  clear hl hn hc hm
  go_enter Tryz.func7, Tryz.ntmps7
  go_wp2_with fail
  refine (law_awake w HMX.out).mono ?_
  rintro e w1 ⟨rfl, h1⟩
  have HN1 := Lib.hid h1
  clear h1
  by_cases g1 : 40 < n
  · have i1 : (40 : Int) < (n : Int) := by omega
    go_wp2_with fail
    go_ret
    exact ⟨rfl, HN1.out⟩
  by_cases g3 : 1000 < call.length
  · have i1 : ¬ (40 : Int) < (n : Int) := by omega
    have i5 : (1000 : Int) < (call.length : Int) := by omega
    go_wp2_with fail
    go_ret
    exact ⟨rfl, HN1.out⟩
  have i1 : ¬ (40 : Int) < (n : Int) := by omega
  have i5 : ¬ (1000 : Int) < (call.length : Int) := by omega
  go_wp2_with fail
  refine (air_Overlap A n c l w1 (HL.out.keep HN1.out) hn9 ht).mono ?_
  rintro e w2 ⟨rfl, h2⟩
  have HN2 := Lib.hid (HN1.out.trans h2)
  unfold over3
  have HOT := Lib.hid (over_tab l)
  obtain ⟨o, ho⟩ : ∃ o, overV l = o := ⟨_, rfl⟩
  rw [ho] at HOT ⊢
  clear ho h2
  obtain ⟨o1, o2, o3⟩ := o
  dsimp only at HOT ⊢
  go_wp2_with fail
  refine (air_ValidTable A n c l w2 (HL.out.keep HN2.out) hn9 ht).mono ?_
  rintro e w3 ⟨rfl, h3⟩
  have HN3 := Lib.hid (HN2.out.trans h3)
  clear h3
  cases htb : tabB l with
  | false =>
    rw [htb] at HOT
    have ho3 : (o3 == 3) = false := HOT.out
    have ho4 : ¬ o3 = 3 := by simpa using ho3
    go_wp2_with fail
    go_ret
    exact ⟨rfl, HN3.out⟩
  | true =>
    rw [htb] at HOT
    have ho4 : o3 = 3 := by have := HOT.out; simpa using this
    subst ho4
    clear HOT
    have HTB := Lib.hid htb
    clear htb
    by_cases hz : n = 0
    · have hzi : (n : Int) = 0 := by omega
      go_wp2_with fail
      go_ret
      exact ⟨rfl, HN3.out⟩
    · have hzi : ¬ (n : Int) = 0 := by omega
      have hzb : ((n : Int) == 0) = false := by rw [beq_eq_false_iff_ne]; exact hzi
      obtain ⟨T, hT, hT9⟩ : ∃ T : Nat, (turn < 0 → -(turn + 1) = (T : Int)) ∧ (¬ turn < 0 → turn = (T : Int)) := by
        by_cases hc : turn < 0
        · exact ⟨(-(turn + 1)).toNat, fun _ => by omega, fun h => (h hc).elim⟩
        · exact ⟨turn.toNat, fun h => (hc h).elim, fun _ => by omega⟩
      have hTb : (T : Int) ≤ 9223372036854775807 := by
        by_cases hc : turn < 0
        · have := hT hc; omega
        · have := hT9 hc; omega
      have hw1 : turn < 0 → wrap64 (turn + 1) = turn + 1 := fun h => by unfold wrap64; omega
      have hw2 : turn < 0 → wrap64 (-(turn + 1)) = -(turn + 1) := fun h => by unfold wrap64; omega
      by_cases hc : turn < 0
      case' pos =>
        have hw3 := hw1 hc
        have hw4 := hw2 hc
        have hT2 := hT hc
        clear hw1 hw2 hT hT9
        go_wp2_with fail
      case' neg =>
        have hT2 := hT9 hc
        clear hw1 hw2 hT hT9
        go_wp2_with fail
      all_goals
        clear hT2 hc
        obtain ⟨s, hs1, hs2⟩ : ∃ s : Nat, T % n = s ∧ s < n := ⟨_, rfl, Nat.mod_lt _ (by omega)⟩
        have hm1 : (T : Int) % (n : Int) = (s : Int) := by rw [← hs1]; exact (Int.natCast_emod T n).symm
        have hm2 : (T : Int).tmod (n : Int) = (s : Int) := by rw [← hs1]; rfl
        have HB0 := Lib.hid (RowsOwn.start w3.heap.size w3)
        clear hs1
        go_loopw [13, 14] (fun v x wr => ∃ k : Nat, k ≤ n ∧ x = .int .i64 k ∧ RowsOwn w3.heap.size ((rotV l s).take k) v wr ∧ New w3 wr) (fun _ x _ => n - (intOf x).toNat)
        case atStart => exact ⟨0, by omega, rfl, HB0.out, New.refl _⟩
        case round =>
          obtain ⟨k, hk, rfl, hown, hnew⟩ := hrel
          have HOWN := Lib.hid hown
          by_cases hlt : k < n
          · obtain ⟨j, hj1, hj2⟩ : ∃ j : Nat, (k + s) % n = j ∧ j < n := ⟨_, rfl, Nat.mod_lt _ (by omega)⟩
            have hm3 : ((k : Int) + (s : Int)) % (n : Int) = (j : Int) := by rw [← hj1, ← Int.natCast_add]; exact (Int.natCast_emod (k + s) n).symm
            have hm4 : ((k : Int) + (s : Int)).tmod (n : Int) = (j : Int) := by rw [← hj1, ← Int.natCast_add]; rfl
            obtain ⟨bb, off, r, rfl, hr, -, hrow⟩ := HL.out.row (HN3.out.trans hnew) hj2
            obtain ⟨c0, c1, c2, c3, c4, c5, c6⟩ := hrow
            have HTK : Hid ((rotV l s).take (k + 1) = (rotV l s).take k ++ [r]) := Lib.hid (rot_take (by rw [HLN.out]; exact hlt) (by rw [HLN.out, hj1]; exact hr))
            have htl : ((rotV l s).take k).length = k := by rw [List.length_take, rot_len, HLN.out]; omega
            have hq1 : (0 : Int) ≤ (j : Int) := by omega
            have hq2 : (j : Int) < (n : Int) := by omega
            have hns := hnew.size
            have hown2 := HOWN.out
            unfold RowsOwn at hown2
            rw [htl] at hown2
            clear hr hj1 hown
            go_wp2_with (at_builtin; refine wpList_append_own _ rfl (.tmp 63) (.tmp 76) 22 rfl w3.heap.size 49 i0 _ 7 i0.bytes Tryz.underlying22 hi hz0 hz1 rfl rfl (by decide) _ _ _ rfl (hown2.alloc _) ⟨wr.heap.size, 0, none⟩ 1 1 (rowL r) rfl rfl ?c1 ?c2 ?c3 ?c4 ?c5 ?_)
            case c1 => exact seven_new wr r
            case c2 => exact seven_one r
            case c3 => unfold maxLen; omega
            case c4 => exact Nat.le_trans (Nat.mul_le_mul (show k + 1 ≤ 41 by omega) hz2) (by decide)
            case c5 => simp; omega
            · intro v' w4 hown' hgrow _
              have hN : New w3 w4 := (hnew.alloc (.cells #[.string (B r.text), .int .i64 r.country, .int .i64 r.zone, .int .i64 r.cont, .int .i64 r.frm, .int .i64 r.til, .bool r.whole] 49)).out.grown hgrow (by simp; omega) (fun b hb => (hown2.lt b hb).1)
              have R : RowsOwn w3.heap.size ((rotV l s).take (k + 1)) v' w4 := by
                unfold RowsOwn
                rw [HTK.out, List.length_append, List.flatMap_append, htl]
                simpa using hown'
              clear hown' hgrow hown2 c0 c1 c2 c3 c4 c5 c6
              go_wp2_with fail
              exact ⟨⟨k + 1, by omega, rfl, R, hN⟩, by simp [intOf]; omega⟩
          · obtain rfl : k = n := by omega
            have hml : (rotV l s).length = k := by rw [rot_len, HLN.out]
            have HTKE : Hid ((rotV l s).take k = rotV l s) := Lib.hid (List.take_of_length_le (by omega))
            rw [HTKE.out] at HOWN
            obtain ⟨g, cap, rfl, hcap, -, hat, hat7⟩ := HOWN.out.at (by omega)
            rw [hml] at hat hat7 hcap ⊢
            have HAT := Lib.hid hat
            have HAT7 := Lib.hid hat7
            have HNW := Lib.hid (HN3.out.trans hnew)
            have hs3 : s < l.length := by rw [HLN.out]; exact hs2
            have HPR := Lib.hid (rot_plR hs3 HTB.out call d)
            have HSR := Lib.hid (fun lo hi er lo' hi' er' (h1 : sinceP l call d lo hi er) (h2 : sinceP (rotV l s) call d lo' hi' er') => rot_since hs3 HTB.out h1 h2)
            have HTM : Hid (TextsIn (rotV l s)) := Lib.hid (fun r hr => ht r ((rot_mem hs3 r).1 hr))
            have HT7 : Hid (TextsIn ((rotV l s).drop 1)) := Lib.hid (fun r hr => HTM.out r (List.mem_of_mem_drop hr))
            have HRT := Lib.hid (rot_tab hs3 HTB.out)
            have HDT := Lib.hid (drop_tab HRT.out)
            clear hown hat hat7 hnew HB0 HTKE HOWN
            generalize rotV l s = m at *
            go_wp2_with fail
            refine (air_PlaceOf A k c l call d wr (HMX.out.keep HNW.out) (HL.out.keep HNW.out) hn9 ht hs).mono ?_
            rintro e w4 ⟨rfl, h4⟩
            obtain ⟨px, py, pz, hp⟩ := pl3_aggO (plR l call d).1
            obtain ⟨pe, hpe⟩ : ∃ x, (plR l call d).2 = x := ⟨_, rfl⟩
            have HP := Lib.hid hp
            have HPE := Lib.hid hpe
            rw [hp, hpe]
            have HK4 := Lib.hid (h4.alloc (.cells #[.int .i64 px, .int .i64 py, .int .i64 pz] 30))
            have HP4 := Lib.hid (pl_new w4 px py pz)
            clear h4 hp hpe
            go_wp2_with fail
            generalize hW : w4.alloc (.cells #[.int .i64 px, .int .i64 py, .int .i64 pz] 30) = W4 at *
            clear hW
            generalize w4.heap.size = g4 at *
            refine (air_PlaceOf (some ⟨g, 0, none⟩) k cap m call d W4 (HMX.out.keep (HNW.out.trans HK4.out)) (HAT.out.keep HK4.out) hn9 HTM.out hs).mono ?_
            rintro e w5 ⟨rfl, h5⟩
            rw [HPR.out, HP.out, HPE.out]
            have HK5 := Lib.hid (h5.alloc (.cells #[.int .i64 px, .int .i64 py, .int .i64 pz] 30))
            have HP5 := Lib.hid (pl_new w5 px py pz)
            replace HP4 := Lib.hid (heap_keep HK5.out HP4.out)
            replace HK4 := Lib.hid (HK4.out.trans HK5.out)
            clear h5 HK5 HPR HP HPE
            go_wp2_with fail
            generalize hW : w5.alloc (.cells #[.int .i64 px, .int .i64 py, .int .i64 pz] 30) = W5 at *
            clear hW
            generalize w5.heap.size = g5 at *
            refine (air_Since A k c l call d W5 (HMX.out.keep (HNW.out.trans HK4.out)) (HL.out.keep (HNW.out.trans HK4.out)) hn9 ht hs).mono ?_
            rintro e w6 ⟨lo, hi', er, rfl, h6, hsp⟩
            have HSP := Lib.hid hsp
            have HK6 := Lib.hid (h6.alloc (.cells #[.int .i64 lo, .int .i64 hi'] 36))
            have HS6 := Lib.hid (sp_new w6 lo hi')
            replace HP4 := Lib.hid (heap_keep HK6.out HP4.out)
            replace HP5 := Lib.hid (heap_keep HK6.out HP5.out)
            replace HK4 := Lib.hid (HK4.out.trans HK6.out)
            clear h6 HK6 hsp
            go_wp2_with fail
            generalize hW : w6.alloc (.cells #[.int .i64 lo, .int .i64 hi'] 36) = W6 at *
            clear hW
            generalize w6.heap.size = g6 at *
            refine (air_Since (some ⟨g, 0, none⟩) k cap m call d W6 (HMX.out.keep (HNW.out.trans HK4.out)) (HAT.out.keep HK4.out) hn9 HTM.out hs).mono ?_
            rintro e w7 ⟨lo2, hi2, er2, rfl, h7, hsp⟩
            obtain ⟨rfl, rfl, rfl⟩ := HSR.out _ _ _ _ _ _ HSP.out hsp
            have HK7 := Lib.hid (h7.alloc (.cells #[.int .i64 lo2, .int .i64 hi2] 36))
            have HS7 := Lib.hid (sp_new w7 lo2 hi2)
            replace HS6 := Lib.hid (heap_keep HK7.out HS6.out)
            replace HP4 := Lib.hid (heap_keep HK7.out HP4.out)
            replace HP5 := Lib.hid (heap_keep HK7.out HP5.out)
            replace HK4 := Lib.hid (HK4.out.trans HK7.out)
            clear h7 HK7 hsp HSP HSR
            go_wp2_with fail
            generalize hW : w7.alloc (.cells #[.int .i64 lo2, .int .i64 hi2] 36) = W7 at *
            clear hW
            generalize w7.heap.size = g7 at *
            refine (air_ValidTable (some ⟨g, 0, none⟩) k cap m W7 (HAT.out.keep HK4.out) hn9 HTM.out).mono ?_
            rintro e w8 ⟨rfl, h8⟩
            rw [HRT.out]
            have hk1 : (1 : Int) ≤ (k : Int) := by omega
            by_cases hc1 : cap = 1
            · have hk2 : k = 1 := by omega
              subst hc1
              subst hk2
              go_wp2_with fail
              refine (air_ValidTable (some ⟨g, 0, none⟩) 0 0 (m.drop 1) w8 ⟨by simp; omega, fun h => by omega⟩ (by omega) HT7.out).mono ?_
              rintro e w9 ⟨rfl, h9⟩
              rw [HDT.out]
              have HK9 := Lib.hid (h8.trans h9)
              obtain ⟨p0, p1, p2, -, -, -⟩ := three_all (heap_keep HK9.out HP4.out)
              obtain ⟨q0, q1, q2, -, -, -⟩ := three_all (heap_keep HK9.out HP5.out)
              obtain ⟨s0, s1, -, -⟩ := two_all (heap_keep HK9.out HS6.out)
              obtain ⟨t0, t1, -, -⟩ := two_all (heap_keep HK9.out HS7.out)
              clear h8 h9
              go_wp2_with fail
              go_ret
              exact ⟨rfl, HNW.out.trans (HK4.out.trans HK9.out)⟩
            · go_wp2_with fail
              refine (air_ValidTable (some ⟨g, 7, none⟩) (k - 1) (cap - 1) (m.drop 1) w8 (HAT7.out.keep (HK4.out.trans h8)) (by omega) HT7.out).mono ?_
              rintro e w9 ⟨rfl, h9⟩
              rw [HDT.out]
              have HK9 := Lib.hid (h8.trans h9)
              obtain ⟨p0, p1, p2, -, -, -⟩ := three_all (heap_keep HK9.out HP4.out)
              obtain ⟨q0, q1, q2, -, -, -⟩ := three_all (heap_keep HK9.out HP5.out)
              obtain ⟨s0, s1, -, -⟩ := two_all (heap_keep HK9.out HS6.out)
              obtain ⟨t0, t1, -, -⟩ := two_all (heap_keep HK9.out HS7.out)
              clear h8 h9
              go_wp2_with fail
              go_ret
              exact ⟨rfl, HNW.out.trans (HK4.out.trans HK9.out)⟩

theorem wf_i64 {n : Int} (h : (Lit.int .i64 n).wf = true) : -9223372036854775808 ≤ n ∧ n ≤ 9223372036854775807 := by
  simpa [Lit.wf, IntKind.min, IntKind.max, IntKind.signed, IntKind.bits] using h
theorem law_order_at (A : Option Addr) (n c : Nat) (l : List Rw) (turn : Int) (s : ByteArray) (d : Int) (w : World) (hm : HasMax w) (hl : RowsAt w A n l) (ht : TextsIn l) (hn : n ≤ c) (hc : c ≤ 9223372036854775807) (hs : s.size ≤ maxLen) (htn : -9223372036854775808 ≤ turn ∧ turn ≤ 9223372036854775807) :
    Calls Tryz.prog 7 #[.slice A n c, .int .i64 turn, .string s, .int .i64 d] w fun e w' => e = .returned (.bool true) ∧ New w w' := by
  have h := law_order A n c l turn (bs s) d w hm hl ht hn hc (by rw [bs_size]; exact hs) htn
  simpa only [B_bs] using h
namespace LawOrder
theorem reads : ∀ t ∈ Tryz.f7.params.toList, Tryz.prog.readableRec t = true ∧ t < Tryz.prog.types.size := by
  rw [Tryz.params7]
  intro t ht
  have ht : t = 22 ∨ t = 9 ∨ t = 3 := by
    have h : t = 22 ∨ t = 3 ∨ t = 9 ∨ t = 3 := by simpa using ht
    rcases h with h | h | h | h <;> simp [h]
  rcases ht with rfl | rfl | rfl
  · exact ⟨by kernel_rfl, of_decide_eq_true (by kernel_rfl)⟩
  · exact ⟨by kernel_rfl, of_decide_eq_true (by kernel_rfl)⟩
  · exact ⟨by kernel_rfl, of_decide_eq_true (by kernel_rfl)⟩
set_option maxRecDepth 100000 in
theorem contract (H : Type) (enc : TypeId × Value → H) (W : World) (base : Nat) (args : Array Value) (ds gs : List (DataW H)) (before : List MemPlace)
    (hval : ∀ (j : Nat) t v, Tryz.f7.params[j]? = some t → args[j]? = some v → Value.okWide Tryz.prog W .any base t v)
    (hW : DataW.Whole enc Tryz.prog Tryz.f7.params.toList Rows.airOrderSpec.vars false W args.toList ds gs before) (hS : W.ShapedOpen Tryz.prog) :
    Calls Tryz.prog 7 args W fun e W' => ∃ v, e = .returned v ∧ Rows.airOrderSpec.post enc Tryz.prog Tryz.f7 false true false false W args v W' := by
  have hW' := hW
  obtain ⟨p, q, hA0, hV, rfl, hfz, hnd⟩ := hW
  have hA : DataW.TrodAll enc Tryz.prog W 0 (fun _ => true) true Tryz.f7.params.toList args.toList ds p := hA0
  rw [Tryz.params7] at hA hval
  obtain ⟨v0, vs0, d0, ds0, p0, q0, hargs, rfl, rfl, h0, r0⟩ := trodAll_cons hA
  obtain ⟨v1, vs1, d1, ds1, p1, q1, rfl, rfl, rfl, h1, r1⟩ := trodAll_cons r0
  obtain ⟨v2, vs2, d2, ds2, p2, q2, rfl, rfl, rfl, h2, r2⟩ := trodAll_cons r1
  obtain ⟨v3, vs3, d3, ds3, p3, q3, rfl, rfl, rfl, h3, r3⟩ := trodAll_cons r2
  obtain ⟨rfl, rfl, rfl⟩ := trodAll_nil r3
  obtain rfl : args = #[v0, v1, v2, v3] := by cases args; simp_all
  obtain ⟨rfl, rfl⟩ := trodVars_none hV
  have hv0 := hval 0 22 v0 rfl rfl
  have hv1 := hval 1 3 v1 rfl rfl
  have hv2 := hval 2 9 v2 rfl rfl
  have hv3 := hval 3 3 v3 rfl rfl
  clear hval
  obtain ⟨A0, n0, c0, rfl⟩ := okWide_slice Tryz.underlying22 hv0
  obtain ⟨l0, hl0, ht0, hn0, hc0⟩ := open_rows h0
  obtain ⟨a1, rfl, rfl, rfl, hw1⟩ := open_int Tryz.underlying3 hv1 h1
  obtain ⟨a2, rfl, rfl, rfl, hb2⟩ := Go.ChangeMaps.open_string Tryz.underlying9 hv2 h2
  obtain ⟨a3, rfl, rfl, rfl, hw3⟩ := open_int Tryz.underlying3 hv3 h3
  refine (law_order_at A0 n0 c0 l0 a1 a2 a3 W (max_of_shaped hS) hl0 ht0 hn0 hc0 hb2 (wf_i64 hw1)).mono fun e W' ⟨he, hb⟩ => ?_
  subst he
  exact ⟨_, rfl, post_true hW' rfl (by kernel_rfl) ⟨rfl, rfl, rfl⟩ reads hb⟩
theorem laid_met (os : Os) : laidMet Tryz.prog Rows.airOrderRow.laid ((laidWorld os).forCall (fun _ _ => 0) ⟨#[], #[.slice none 0 0, .int .i64 0, .string ⟨#[]⟩, .int .i64 0], []⟩).memory :=
  laidMet_of_run' 8 (by kernel_rfl) (by kernel_rfl)
theorem reads_w (os : Os) {H : Type} (enc : TypeId × Value → H) : ∃ places, DataW.whole enc Tryz.prog ((laidWorld os).forCall (fun _ _ => 0) ⟨#[], #[.slice none 0 0, .int .i64 0, .string ⟨#[]⟩, .int .i64 0], []⟩).memory Tryz.f7.params.toList Rows.airOrderSpec.vars false #[Value.slice none 0 0, .int .i64 0, .string ⟨#[]⟩, .int .i64 0].toList 8 = some ([.nil, .lit (.int .i64 0), .lit (.string []), .lit (.int .i64 0)], [], places) :=
  ⟨[], by kernel_rfl⟩
set_option maxRecDepth 100000 in
theorem lifted (os : Os) (started : os.Started) (H : Type) (enc : TypeId × Value → H) (F : Stop.Interp) :
    ReturnsInHanded {} Tryz.checked os 7 .any ((OpenSpec.ofChange Rows.airOrderSpec).preRow enc Tryz.prog Tryz.f7 Rows.airOrderRow.domain false Rows.airOrderRow.laid) (((OpenSpec.ofChange Rows.airOrderSpec).at F).post enc Tryz.prog Tryz.f7 false true false false) := by
  obtain ⟨places, hx⟩ := reads_w os enc
  refine returnsInHanded_of_row (C := Tryz.checked) (s := OpenSpec.ofChange Rows.airOrderSpec) row_own started (by kernel_rfl) Tryz.func7
    (witness_row_at (enc := enc) (C := Tryz.checked) false (laidWorld os) #[.slice none 0 0, .int .i64 0, .string ⟨#[]⟩, .int .i64 0] rfl (by kernel_rfl) (by kernel_rfl) (by kernel_rfl)
      (OpenSpec.preRow_of_cond 8 hx (by kernel_rfl) (fun k hk => by cases hk) (by kernel_rfl) (laid_met os))) ?_
  intro W base args ds gs before hval hW _ _ _ _ hS _
  exact contract H enc W base args ds gs before hval hW hS
theorem said : Rows.AirOrderSaid :=
  OpenClaim.holds_of_cond 7 Tryz.f7 rfl rfl rfl rfl rfl rfl rfl ⟨rfl, rfl, rfl, rfl, rfl⟩ rfl rfl rfl rfl rfl (by kernel_rfl) Tryz.func7 (by kernel_rfl)
    (of_decide_eq_true (by kernel_rfl)) (by unfold Func.isWrapper; first | (rw [if_pos (by decide +kernel)]; kernel_rfl) | (rw [if_neg (by decide +kernel)]; exact ⟨rfl, rfl⟩))
    (fun os started H enc _ F => by rw [OpenClaim.pre_eq_preRow]; exact lifted os started H enc F)
theorem plain (f : FuncId) (fn : Func) (hf : Tryz.pinned.checked.prog.funcNamed "pileup/pileuplaw01.AirOrder" = some f) (hfn : Tryz.pinned.checked.prog.funcs[f]? = some fn) :
    false = Tryz.pinned.checked.prog.looks [] ∧ ∀ (j : Nat) t, fn.params[j]? = some t → Tryz.pinned.checked.prog.wantsStandIn t = false := by
  obtain rfl : f = 7 := Option.some.inj ((show Tryz.prog.funcNamed "pileup/pileuplaw01.AirOrder" = some 7 by kernel_rfl).symm.trans hf) |>.symm
  obtain rfl : fn = Tryz.f7 := (Option.some.inj (Tryz.func7.symm.trans hfn)).symm
  refine ⟨by kernel_rfl, fun j t ht => ?_⟩
  rw [Tryz.params7] at ht
  have ht : t = 22 ∨ t = 9 ∨ t = 3 := by
    have h : t = 22 ∨ t = 3 ∨ t = 9 ∨ t = 3 := by simpa using Array.mem_of_getElem? ht
    rcases h with h | h | h | h <;> simp [h]
  rcases ht with rfl | rfl | rfl
  · exact (show Tryz.prog.wantsStandIn 22 = false by kernel_rfl)
  · exact (show Tryz.prog.wantsStandIn 9 = false by kernel_rfl)
  · exact (show Tryz.prog.wantsStandIn 3 = false by kernel_rfl)
theorem card : Rows.AirOrderCardSaid :=
  Claim7.holds_tied_plain_at .later [] _ _ _ _ said (fun _ h => by cases h) (by kernel_rfl) (fun _ h => by cases h) airOrder_row_tie rfl ⟨rfl, rfl⟩ (by kernel_rfl) rfl plain (by kernel_rfl)
end LawOrder

end Go.Proofs.YtkbdmdnahphkkaaGreatDoor
