/-
  CopyingJoins: the cost of texts put together, and of an alignment cut in two. Condition: the tables lie in memory.
-/
import Derived.Test.YthodoabppkeidaaDoorCpJoins
import Derived.Test.YthodoabppkeidaaDoorCpLaid
import Derived.Deep.CutRange
namespace Go.Proofs.YthodoabppkeidaaDoor
open Go Go.RowKit
open Go.ChangeShapes Go.WideShapes Go.ChangeAt Go.Deep
theorem bs_take (s : ByteArray) (i : Nat) : bs (s.extract 0 i) = (bs s).take i := by
  show (s.extract 0 i).data.toList = _
  rw [Lib.extract_data, Nat.sub_zero, List.drop_zero]
  rfl
theorem bs_drop (s : ByteArray) (i : Nat) : bs (s.extract i s.size) = (bs s).drop i := by
  show (s.extract i s.size).data.toList = _
  rw [Lib.extract_data, List.take_of_length_le]
  · rfl
  · rw [List.length_drop]; have := bs_size s; unfold bs at this; omega
theorem bs_join (s t : ByteArray) : bs (s ++ t) = bs s ++ bs t := by
  show (s ++ t).data.toList = _
  simp [bs]
set_option maxRecDepth 100000 in
set_option maxHeartbeats 8000000 in
theorem law_joins (F : List Bytes) (mode : Int) (S T U V : ByteArray) (k : Int) (w : World) (hT : TabAt w F) (hp : HasPow w) :
    Calls Tryd.prog 7 #[.agg #[.int .i64 mode, .string S, .string T, .string U], .string V, .int .i64 k] w fun e w' => e = .returned (.bool true) ∧ New w w' := by
  have HT := Lib.hid hT
  have HA : Hid (∀ w', New w w' → Calls Tryd.prog 11 #[] w' fun e w'' => e = .returned (.bool true) ∧ New w' w'') := Lib.hid (fun w' hn => law_awake F w' (hT.keep hn) (hp.keep hn))
  have HB := Lib.hid law_brief
  clear hT hp
  have hk := (New.refl w).alloc (.cells #[.int .i64 mode, .string S, .string T, .string U] 41)
  have hr := RowIs.new w 41 [.int .i64 mode, .string S, .string T, .string U]
  have HK := Lib.hid hk
  have HR := Lib.hid hr
  clear hk hr
  go_enter Tryd.func7, Tryd.ntmps7
  go_wp2_with fail
  generalize hW : w.alloc (.cells #[.int .i64 mode, .string S, .string T, .string U] 41) = W at *
  refine (HA.out W HK.out).mono ?_
  rintro e w1 ⟨rfl, n1⟩
  have N1 := Lib.hid (HK.out.trans n1)
  have R1 := Lib.hid (HR.out.keep n1)
  clear n1
  have c1 := R1.out.cell (i := 1) rfl
  have c2 := R1.out.cell (i := 2) rfl
  have c3 := R1.out.cell (i := 3) rfl
  have B1 := Lib.hid (HB.out S w1)
  have B2 := Lib.hid (HB.out T w1)
  have B3 := Lib.hid (HB.out U w1)
  have B4 := Lib.hid (HB.out V w1)
  by_cases h1 : S.size ≤ 200
  · rw [decide_eq_true h1] at B1
    by_cases h2 : T.size ≤ 200
    · rw [decide_eq_true h2] at B2
      by_cases h3 : U.size ≤ 200
      · rw [decide_eq_true h3] at B3
        by_cases h4 : V.size ≤ 200
        · rw [decide_eq_true h4] at B4
          go_wp2_with fail
          refine B1.out.mono ?_
          rintro e w' ⟨rfl, rfl⟩
          go_wp2_with fail
          refine B2.out.mono ?_
          rintro e w' ⟨rfl, rfl⟩
          go_wp2_with fail
          refine B3.out.mono ?_
          rintro e w' ⟨rfl, rfl⟩
          go_wp2_with fail
          refine B4.out.mono ?_
          rintro e w' ⟨rfl, rfl⟩
          have c0 := R1.out.cell (i := 0) rfl
          have hCO : ∀ (s t : ByteArray) w', s.size ≤ 400 → t.size ≤ 400 → New w w' → Calls Tryd.prog 23 #[.int .i64 mode, .string s, .string t] w' fun e w'' => e = .returned (.tuple #[.int .i64 (costC F mode (bs s) (bs t) : Nat), .int .i64 (hearE mode (bs s) (bs t))]) ∧ New w' w'' :=
            fun s t w' ls lt hn => cost_at F mode s t w' (HT.out.keep hn) (by omega) (by omega)
          have HCO := Lib.hid hCO
          have HAL : Hid (∀ w', New w w' → Calls Tryd.prog 24 #[.int .i64 mode, .string S, .string T] w' fun e w'' => ∃ v, e = .returned (.tuple #[v, .int .i64 (hearE mode (bs S) (bs T))]) ∧ (StsAt w'' w'.heap.size v (alC F mode (bs S) (bs T)) ∧ New w' w'')) := Lib.hid (fun w' hn => by
            have h := cp_Align F mode (bs S) (bs T) w' (HT.out.keep hn) (by rw [bs_size]; omega) (by rw [bs_size]; omega)
            rw [B_bs, B_bs] at h
            exact h)
          clear hCO B1 B2 B3 B4
          go_wp2_with fail
          refine (HCO.out S T w1 (by omega) (by omega) N1.out).mono ?_
          rintro e w2 ⟨rfl, n2⟩
          have N2 := Lib.hid (N1.out.trans n2)
          have R2 := Lib.hid (R1.out.keep n2)
          clear n2 c0 c1 c2 c3
          have c0 := R2.out.cell (i := 0) rfl
          have c3 := R2.out.cell (i := 3) rfl
          go_wp2_with fail
          refine (HCO.out U V w2 (by omega) (by omega) N2.out).mono ?_
          rintro e w3 ⟨rfl, n3⟩
          have N3 := Lib.hid (N2.out.trans n3)
          have R3 := Lib.hid (R2.out.keep n3)
          clear n3 c0 c3
          have c0 := R3.out.cell (i := 0) rfl
          have c1 := R3.out.cell (i := 1) rfl
          have c2 := R3.out.cell (i := 2) rfl
          have c3 := R3.out.cell (i := 3) rfl
          go_wp2_with fail
          have hsz1 : (S ++ U).size ≤ 400 := by rw [ByteArray.size_append]; omega
          have hsz2 : (T ++ V).size ≤ 400 := by rw [ByteArray.size_append]; omega
          refine (HCO.out (S ++ U) (T ++ V) w3 hsz1 hsz2 N3.out).mono ?_
          rintro e w4 ⟨rfl, n4⟩
          have N4 := Lib.hid (N3.out.trans n4)
          have R4 := Lib.hid (R3.out.keep n4)
          clear n4 c0 c1 c2 c3 hsz1 hsz2
          have HJ := Lib.hid (costC_join F (mode := mode) (s := bs S) (t := bs T) (u := bs U) (v := bs V))
          rw [bs_join, bs_join]
          have ha := costC_small F mode (bs S) (bs T)
          have hb := costC_small F mode (bs U) (bs V)
          have hc := costC_small F mode (bs S ++ bs U) (bs T ++ bs V)
          have HCUT := Lib.hid (fun (h : hearE mode (bs S) (bs T) = 0) at' hl => joins_cut F (mode := mode) (s := bs S) (t := bs T) h (at' := at') hl)
          have HSM := Lib.hid (alC_small F mode (bs S) (bs T))
          have c0 := R4.out.cell (i := 0) rfl
          have c1 := R4.out.cell (i := 1) rfl
          have c2 := R4.out.cell (i := 2) rfl
          go_upto_region 7 with fail
          go_cut [9, 11, 13, 97] from 24 to 97 (fun s9 s11 s13 s97 wx => s9 = .int .i64 (hearE mode (bs S) (bs T)) ∧ s97 = .bool false ∧ wx = w4)
          case first =>
            by_cases e1 : hearE mode (bs S) (bs T) = 0
            · by_cases e2 : hearE mode (bs U) (bs V) = 0
              · by_cases e3 : hearE mode (bs S ++ bs U) (bs T ++ bs V) = 0
                · have hj := HJ.out e1 e2 e3
                  have i1 : IntKind.i64.wrap ((costC F mode (bs S) (bs T) : Int) + (costC F mode (bs U) (bs V) : Int)) = (costC F mode (bs S) (bs T) : Int) + (costC F mode (bs U) (bs V) : Int) := IntWalk.i64_in _ (by omega)
                  have i2 : ¬ ((costC F mode (bs S) (bs T) : Int) + (costC F mode (bs U) (bs V) : Int) < (costC F mode (bs S ++ bs U) (bs T ++ bs V) : Int)) := by omega
                  go_wp2_with fail
                  all_goals
                    go_meet
                    case rel => exact ⟨by rw [e1], by first | rfl | simp [i1, i2], rfl⟩
                · have g3 : (hearE mode (bs S ++ bs U) (bs T ++ bs V) == 0) = false := by rw [beq_eq_false_iff_ne]; exact e3
                  go_wp2_with fail
                  all_goals
                    go_meet
                    case rel => exact ⟨by rw [e1], by first | rfl | simp [e3], rfl⟩
              · have g2 : (hearE mode (bs U) (bs V) == 0) = false := by rw [beq_eq_false_iff_ne]; exact e2
                go_wp2_with fail
                all_goals
                  go_meet
                  case rel => exact ⟨by rw [e1], by first | rfl | simp [e2], rfl⟩
            · have g1 : (hearE mode (bs S) (bs T) == 0) = false := by rw [beq_eq_false_iff_ne]; exact e1
              go_wp2_with fail
              all_goals
                go_meet
                case rel => exact ⟨rfl, by first | rfl | simp [e1], rfl⟩
          case rest =>
            obtain ⟨rfl, rfl, rfl⟩ := hcut
            clear HJ hb hc
            go_wp2_with fail
            refine (HAL.out wc N4.out).mono ?_
            rintro e w5 ⟨v, rfl, st, n5⟩
            have N5 := Lib.hid (N4.out.trans n5)
            have R5 := Lib.hid (R4.out.keep n5)
            obtain ⟨SA, SC, rfl⟩ := owns_form st
            have HST := Lib.hid st
            have hsm := HSM.out
            clear n5 st c0 c1 c2 HAL HSM
            by_cases e1 : hearE mode (bs S) (bs T) = 0
            · have HCUT2 := Lib.hid (fun at' hl => HCUT.out e1 at' hl)
              clear HCUT
              generalize hA : costC F mode (bs S) (bs T) = A at *
              generalize hL : alC F mode (bs S) (bs T) = L at *
              generalize hearE mode (bs S) (bs T) = E1 at *
              subst e1
              by_cases k0 : k < 0
              · go_wp2_with fail
                go_ret
                exact ⟨by first | rfl | simp, N5.out⟩
              · by_cases k1 : (L.length : Int) < k
                · go_wp2_with fail
                  go_ret
                  exact ⟨by first | rfl | simp, N5.out⟩
                · obtain ⟨n, rfl⟩ : ∃ n : Nat, k = n := ⟨k.toNat, by omega⟩
                  have hnL : n ≤ L.length := by omega
                  go_wp2_with fail
                  go_loopw [19, 16, 17, 18] (fun s19 s16 s17 s18 wr => ∃ j : Nat, j ≤ n ∧ s19 = .int .i64 j ∧ s16 = .int .i64 (cntS (L.take j) : Nat) ∧ s17 = .int .i64 (cntH (L.take j) : Nat) ∧ s18 = .int .i64 (sumL (L.take j) : Nat) ∧ wr = w5) (fun i _ _ _ _ => n - (intOf i).toNat)
                  case atStart => exact ⟨0, by omega, rfl, rfl, rfl, rfl, rfl⟩
                  case round =>
                    obtain ⟨j, hj, rfl, rfl, rfl, rfl, hw⟩ := hrel
                    have hw' := hw.symm
                    subst hw'
                    clear hw
                    by_cases hlt : j < n
                    · have hjL : j < L.length := by omega
                      have q1 := cntS_take hjL
                      have q2 := cntH_take hjL
                      have q3 := sumL_take hjL
                      have r1 := cntS_le L j
                      have r2 := cntH_le L j
                      have r3 := sumL_le L j
                      have r4 := sumL_le L (j + 1)
                      have r5 : sumL (L.take j) + (L[j]'hjL).2.2 ≤ 1000 := by omega
                      have hcl := HST.out.cells (List.getElem?_eq_getElem hjL)
                      have Q1 := Lib.hid q1
                      have Q2 := Lib.hid q2
                      have Q3 := Lib.hid q3
                      clear q1 q2
                      generalize L[j]'hjL = t at *
                      obtain ⟨g1, sc1, e1, -, -, -, x0, x1, x2⟩ := hcl
                      simp only [Value.slice.injEq, true_and] at e1
                      obtain ⟨rfl, rfl⟩ := e1
                      obtain ⟨tS, tH, tC⟩ := t
                      simp only at x0 x1 x2 Q1 Q2 Q3 q3 r5
                      have i1 : (j : Int) < (L.length : Int) := by omega
                      clear q3 HCUT2
                      generalize cntS (L.take j) = cs at *
                      generalize cntH (L.take j) = ch at *
                      generalize sumL (L.take j) = su at *
                      by_cases t1 : 0 ≤ tS <;> by_cases t2 : 0 ≤ tH
                      all_goals
                        go_wp2_with fail
                        refine ⟨⟨j + 1, by omega, by go_num, by rw [Q1.out]; simp [t1], by rw [Q2.out]; simp [t2], by rw [Q3.out]; go_num, trivial⟩, by simp [intOf]; omega⟩
                    · obtain rfl : j = n := by omega
                      obtain ⟨⟨y1, y2⟩, y3, y4, y5, y6⟩ := HCUT2.out j hnL
                      rw [bs_size] at y1 y2
                      have su1 := costC_small F mode ((bs S).drop (cntS (L.take j))) ((bs T).drop (cntH (L.take j)))
                      have HC1 : Hid (∀ w', New w w' → Calls Tryd.prog 23 #[.int .i64 mode, .string (S.extract 0 (cntS (L.take j))), .string (T.extract 0 (cntH (L.take j)))] w' fun e w'' => e = .returned (.tuple #[.int .i64 (sumL (L.take j) : Nat), .int .i64 0]) ∧ New w' w'') := Lib.hid (fun w' hn => by
                        have h := HCO.out (S.extract 0 (cntS (L.take j))) (T.extract 0 (cntH (L.take j))) w' (by rw [← bs_size, bs_take, List.length_take, bs_size]; omega) (by rw [← bs_size, bs_take, List.length_take, bs_size]; omega) hn
                        rw [bs_take, bs_take, y3, y5] at h
                        exact h)
                      have HC2 : Hid (∀ w', New w w' → Calls Tryd.prog 23 #[.int .i64 mode, .string (S.extract (cntS (L.take j)) S.size), .string (T.extract (cntH (L.take j)) T.size)] w' fun e w'' => e = .returned (.tuple #[.int .i64 (costC F mode ((bs S).drop (cntS (L.take j))) ((bs T).drop (cntH (L.take j))) : Nat), .int .i64 0]) ∧ New w' w'') := Lib.hid (fun w' hn => by
                        have h := HCO.out (S.extract (cntS (L.take j)) S.size) (T.extract (cntH (L.take j)) T.size) w' (by rw [← bs_size, bs_drop, List.length_drop, bs_size]; omega) (by rw [← bs_size, bs_drop, List.length_drop, bs_size]; omega) hn
                        rw [bs_drop, bs_drop, y4] at h
                        exact h)
                      have Y6 := Lib.hid y6
                      have sm1 := sumL_le L j
                      clear y3 y4 y5 y6 HCUT2
                      generalize costC F mode ((bs S).drop (cntS (L.take j))) ((bs T).drop (cntH (L.take j))) = D at *
                      generalize cntS (L.take j) = cs at *
                      generalize cntH (L.take j) = ch at *
                      generalize sumL (L.take j) = su at *
                      have HDB : Hid (∀ w', New w5 w' → New w5 w' ∧ w'.cell? ⟨w.heap.size, 0, none⟩ = some (.int .i64 mode) ∧ w'.cell? ⟨w.heap.size, 1, none⟩ = some (.string S) ∧ w'.cell? ⟨w.heap.size, 2, none⟩ = some (.string T)) :=
                        Lib.hid (fun w' hn => ⟨hn, (R5.out.keep hn).cell rfl, (R5.out.keep hn).cell rfl, (R5.out.keep hn).cell rfl⟩)
                      obtain ⟨-, c0, c1, c2⟩ := HDB.out w5 (New.refl w5)
                      have i1 : ¬ ((S.size : Int) < (cs : Int)) := by omega
                      have i2 : ¬ ((T.size : Int) < (ch : Int)) := by omega
                      have i3 : (cs : Int) ≤ (S.size : Int) := by omega
                      have i4 : (ch : Int) ≤ (T.size : Int) := by omega
                      go_wp2_with fail
                      go_region_held3 (fun w' => New w5 w' ∧ w'.cell? ⟨w.heap.size, 0, none⟩ = some (.int .i64 mode) ∧ w'.cell? ⟨w.heap.size, 1, none⟩ = some (.string S) ∧ w'.cell? ⟨w.heap.size, 2, none⟩ = some (.string T))
                        (first | exact HDB.out _ (New.refl _).drew | exact HDB.out _ (New.trans (by first | assumption | exact (by assumption : New _ _ ∧ _).1) (by assumption)))
                        (first | (go_at_call 23; refine (HC1.out _ (N5.out.trans (by first | exact (New.refl _).drew | assumption | exact (by assumption : New _ _ ∧ _).1))).mono ?_; rintro e w' ⟨rfl, hb⟩))
                      have hn6 : New w5 w' := (by assumption : New w5 w' ∧ _).1
                      have N6 := Lib.hid (N5.out.trans hn6)
                      have R6 := Lib.hid (R5.out.keep hn6)
                      clear hn6 hb c0 c1 c2 HDB
                      generalize hw6 : w' = w6 at *
                      clear hw6
                      have HDC : Hid (∀ w', New w6 w' → New w6 w' ∧ w'.cell? ⟨w.heap.size, 0, none⟩ = some (.int .i64 mode) ∧ w'.cell? ⟨w.heap.size, 1, none⟩ = some (.string S) ∧ w'.cell? ⟨w.heap.size, 2, none⟩ = some (.string T)) :=
                        Lib.hid (fun w' hn => ⟨hn, (R6.out.keep hn).cell rfl, (R6.out.keep hn).cell rfl, (R6.out.keep hn).cell rfl⟩)
                      obtain ⟨-, c0, c1, c2⟩ := HDC.out w6 (New.refl w6)
                      go_wp2_with fail
                      go_region_held3 (fun w' => New w6 w' ∧ w'.cell? ⟨w.heap.size, 0, none⟩ = some (.int .i64 mode) ∧ w'.cell? ⟨w.heap.size, 1, none⟩ = some (.string S) ∧ w'.cell? ⟨w.heap.size, 2, none⟩ = some (.string T))
                        (first | exact HDC.out _ (New.refl _).drew | exact HDC.out _ (New.trans (by first | assumption | exact (by assumption : New _ _ ∧ _).1) (by assumption)))
                        (first | (go_at_call 23; refine (HC2.out _ (N6.out.trans (by first | exact (New.refl _).drew | assumption | exact (by assumption : New _ _ ∧ _).1))).mono ?_; rintro e w' ⟨rfl, hb⟩))
                      have hn7 : New w6 w' := (by assumption : New w6 w' ∧ _).1
                      have N7 := Lib.hid (N6.out.trans hn7)
                      have j1 : IntKind.i64.wrap ((su : Int) + (D : Int)) = (su : Int) + (D : Int) := IntWalk.i64_in _ (by omega)
                      have j2 : (su : Int) + (D : Int) = (A : Int) := by have := Y6.out; omega
                      clear hn7 hb c0 c1 c2 HDC
                      go_wp2_with fail
                      all_goals
                        go_ret
                        exact ⟨by first | rfl | (simp; done) | (simp; omega), N7.out⟩
            · have g1 : (hearE mode (bs S) (bs T) != 0) = true := by rw [bne_iff_ne]; exact e1
              go_wp2_with fail
              go_ret
              exact ⟨by first | rfl | simp, N5.out⟩
        · rw [decide_eq_false h4] at B4
          go_wp2_with fail
          refine B1.out.mono ?_
          rintro e w' ⟨rfl, rfl⟩
          go_wp2_with fail
          refine B2.out.mono ?_
          rintro e w' ⟨rfl, rfl⟩
          go_wp2_with fail
          refine B3.out.mono ?_
          rintro e w' ⟨rfl, rfl⟩
          go_wp2_with fail
          refine B4.out.mono ?_
          rintro e w' ⟨rfl, rfl⟩
          go_wp2_with fail
          go_ret
          exact ⟨rfl, N1.out⟩
      · rw [decide_eq_false h3] at B3
        go_wp2_with fail
        refine B1.out.mono ?_
        rintro e w' ⟨rfl, rfl⟩
        go_wp2_with fail
        refine B2.out.mono ?_
        rintro e w' ⟨rfl, rfl⟩
        go_wp2_with fail
        refine B3.out.mono ?_
        rintro e w' ⟨rfl, rfl⟩
        go_wp2_with fail
        go_ret
        exact ⟨rfl, N1.out⟩
    · rw [decide_eq_false h2] at B2
      go_wp2_with fail
      refine B1.out.mono ?_
      rintro e w' ⟨rfl, rfl⟩
      go_wp2_with fail
      refine B2.out.mono ?_
      rintro e w' ⟨rfl, rfl⟩
      go_wp2_with fail
      go_ret
      exact ⟨rfl, N1.out⟩
  · rw [decide_eq_false h1] at B1
    go_wp2_with fail
    refine B1.out.mono ?_
    rintro e w' ⟨rfl, rfl⟩
    go_wp2_with fail
    go_ret
    exact ⟨rfl, N1.out⟩
namespace LawJoins
theorem reads : ∀ t ∈ Tryd.f7.params.toList, Tryd.prog.readableRec t = true ∧ t < Tryd.prog.types.size := by
  rw [Tryd.params7]
  intro t ht
  have ht : t = 41 ∨ t = 9 ∨ t = 3 := by simpa using ht
  rcases ht with rfl | rfl | rfl
  · exact ⟨by kernel_rfl, of_decide_eq_true (by kernel_rfl)⟩
  · exact ⟨by kernel_rfl, of_decide_eq_true (by kernel_rfl)⟩
  · exact ⟨by kernel_rfl, of_decide_eq_true (by kernel_rfl)⟩
set_option maxRecDepth 100000 in
theorem contract (H : Type) (enc : TypeId × Value → H) (W : World) (base : Nat) (args : Array Value) (ds gs : List (DataW H)) (before : List MemPlace)
    (hval : ∀ (j : Nat) t v, Tryd.f7.params[j]? = some t → args[j]? = some v → Value.okWide Tryd.prog W .any base t v)
    (hW : DataW.Whole enc Tryd.prog Tryd.f7.params.toList Rows.copyingJoinsSpec.vars false W args.toList ds gs before) (hS : W.ShapedOpen Tryd.prog) (hlaid : laidMetH Tryd.prog Rows.copyingJoinsRow.laid W) :
    Calls Tryd.prog 7 args W fun e W' => ∃ v, e = .returned v ∧ Rows.copyingJoinsSpec.post enc Tryd.prog Tryd.f7 false true false false W args v W' := by
  have hW' := hW
  obtain ⟨p, q, hA0, hV, rfl, hfz, hnd⟩ := hW
  have hA : DataW.TrodAll enc Tryd.prog W 0 (fun _ => true) true Tryd.f7.params.toList args.toList ds p := hA0
  rw [Tryd.params7] at hA hval
  obtain ⟨v0, vs0, d0, ds0, p0, q0, hargs, rfl, rfl, h0, r0⟩ := trodAll_cons hA
  obtain ⟨v1, vs1, d1, ds1, p1, q1, rfl, rfl, rfl, h1, r1⟩ := trodAll_cons r0
  obtain ⟨v2, vs2, d2, ds2, p2, q2, rfl, rfl, rfl, h2, r2⟩ := trodAll_cons r1
  obtain ⟨rfl, rfl, rfl⟩ := trodAll_nil r2
  obtain rfl : args = #[v0, v1, v2] := by cases args; simp_all
  obtain ⟨rfl, rfl⟩ := trodVars_none hV
  have hv0 := hval 0 41 v0 rfl rfl
  have hv1 := hval 1 9 v1 rfl rfl
  have hv2 := hval 2 3 v2 rfl rfl
  clear hval
  obtain ⟨m0, x0, y0, z0, rfl, rfl⟩ := open_three hv0 h0
  obtain ⟨a1, rfl, rfl, rfl, hb1⟩ := Go.ChangeMaps.open_string Tryd.underlying9 hv1 h1
  obtain ⟨a2, rfl, rfl, rfl, hw2⟩ := open_int Tryd.underlying3 hv2 h2
  have hpow : HasPow W := pow_of_laid hlaid
  obtain ⟨Fm, htab⟩ := tab_of_row hS hlaid
  refine (law_joins Fm m0 x0 y0 z0 a1 a2 W htab hpow).mono fun e W' ⟨he, hb⟩ => ?_
  subst he
  exact ⟨_, rfl, post_true hW' rfl (by kernel_rfl) ⟨rfl, rfl, rfl⟩ reads hb⟩
theorem laid_met (os : Os) : laidMet Tryd.prog Rows.copyingJoinsRow.laid ((laidWorld os).forCall (fun _ _ => 0) ⟨#[], #[.agg #[.int .i64 0, .string ⟨#[]⟩, .string ⟨#[]⟩, .string ⟨#[]⟩], .string ⟨#[]⟩, .int .i64 0], []⟩).memory :=
  laidMet_of_run' 8 (by kernel_rfl) (by kernel_rfl)
theorem reads_w (os : Os) {H : Type} (enc : TypeId × Value → H) : ∃ places, DataW.whole enc Tryd.prog ((laidWorld os).forCall (fun _ _ => 0) ⟨#[], #[.agg #[.int .i64 0, .string ⟨#[]⟩, .string ⟨#[]⟩, .string ⟨#[]⟩], .string ⟨#[]⟩, .int .i64 0], []⟩).memory Tryd.f7.params.toList Rows.copyingJoinsSpec.vars false #[Value.agg #[.int .i64 0, .string ⟨#[]⟩, .string ⟨#[]⟩, .string ⟨#[]⟩], .string ⟨#[]⟩, .int .i64 0].toList 8 = some ([.agg [.lit (.int .i64 0), .lit (.string []), .lit (.string []), .lit (.string [])], .lit (.string []), .lit (.int .i64 0)], [], places) :=
  ⟨[], by kernel_rfl⟩
set_option maxRecDepth 100000 in
theorem lifted (os : Os) (started : os.Started) (H : Type) (enc : TypeId × Value → H) (F : Stop.Interp) :
    ReturnsInHanded {} Tryd.checked os 7 .any ((OpenSpec.ofChange Rows.copyingJoinsSpec).preRow enc Tryd.prog Tryd.f7 Rows.copyingJoinsRow.domain false Rows.copyingJoinsRow.laid) (((OpenSpec.ofChange Rows.copyingJoinsSpec).at F).post enc Tryd.prog Tryd.f7 false true false false) := by
  obtain ⟨places, hx⟩ := reads_w os enc
  refine returnsInHanded_of_row (C := Tryd.checked) (s := OpenSpec.ofChange Rows.copyingJoinsSpec) row_own started (by kernel_rfl) Tryd.func7
    (witness_row_at (enc := enc) (C := Tryd.checked) false (laidWorld os) #[.agg #[.int .i64 0, .string ⟨#[]⟩, .string ⟨#[]⟩, .string ⟨#[]⟩], .string ⟨#[]⟩, .int .i64 0] rfl (by kernel_rfl) (by kernel_rfl) (by kernel_rfl)
      (OpenSpec.preRow_of_cond 8 hx (by kernel_rfl) (fun k hk => by cases hk) (by kernel_rfl) (laid_met os))) ?_
  intro W base args ds gs before hval hW _ _ _ hlaid hS _
  exact contract H enc W base args ds gs before hval hW hS hlaid
theorem said : Rows.CopyingJoinsSaid :=
  OpenClaim.holds_of_cond 7 Tryd.f7 rfl rfl rfl rfl rfl rfl rfl ⟨rfl, rfl, rfl, rfl, rfl⟩ rfl rfl rfl rfl rfl (by kernel_rfl) Tryd.func7 (by kernel_rfl)
    (of_decide_eq_true (by kernel_rfl)) (by unfold Func.isWrapper; first | (rw [if_pos (by decide +kernel)]; kernel_rfl) | (rw [if_neg (by decide +kernel)]; exact ⟨rfl, rfl⟩))
    (fun os started H enc _ F => by rw [OpenClaim.pre_eq_preRow]; exact lifted os started H enc F)
theorem plain (f : FuncId) (fn : Func) (hf : Tryd.pinned.checked.prog.funcNamed "pileup/pileuplaw04.CopyingJoins" = some f) (hfn : Tryd.pinned.checked.prog.funcs[f]? = some fn) :
    false = Tryd.pinned.checked.prog.looks [] ∧ ∀ (j : Nat) t, fn.params[j]? = some t → Tryd.pinned.checked.prog.wantsStandIn t = false := by
  obtain rfl : f = 7 := Option.some.inj ((show Tryd.prog.funcNamed "pileup/pileuplaw04.CopyingJoins" = some 7 by kernel_rfl).symm.trans hf) |>.symm
  obtain rfl : fn = Tryd.f7 := (Option.some.inj (Tryd.func7.symm.trans hfn)).symm
  refine ⟨by kernel_rfl, fun j t ht => ?_⟩
  rw [Tryd.params7] at ht
  have ht : t = 41 ∨ t = 9 ∨ t = 3 := by simpa using Array.mem_of_getElem? ht
  rcases ht with rfl | rfl | rfl
  · exact (show Tryd.prog.wantsStandIn 41 = false by kernel_rfl)
  · exact (show Tryd.prog.wantsStandIn 9 = false by kernel_rfl)
  · exact (show Tryd.prog.wantsStandIn 3 = false by kernel_rfl)
theorem card : Rows.CopyingJoinsCardSaid :=
  Claim7.holds_tied_plain_at .later [] _ _ _ _ said (fun _ h => by cases h) (by kernel_rfl) (fun _ h => by cases h) copyingJoins_row_tie rfl ⟨rfl, rfl⟩ (by kernel_rfl) rfl plain (by kernel_rfl)
end LawJoins
end Go.Proofs.YthodoabppkeidaaDoor
