/-
  firstClash, openTable, ValidTable, Overlap of the program. Conditions: the texts are in memory.
-/
import Derived.Test.YtkbdmdnahphkkaaGreatDoorTabFind
namespace Go.Proofs.YtkbdmdnahphkkaaGreatDoor
open Go.RowKit
def clV : Option (Nat × Nat) → Value
  | some (i, k) => .tuple #[.int .i64 i, .int .i64 k, .bool true]
  | none => .tuple #[.int .i64 0, .int .i64 0, .bool false]
/-- Row k lies behind row i and has a day in common with r. -/
def meetB (l : List Rw) (r : Rw) (i k : Nat) : Bool := decide (i < k) && (decide ((rowN l k).frm ≤ r.til) && decide (r.frm ≤ (rowN l k).til))
theorem clash_find {l : List Rw} {r : Rw} {i : Nat} (hr : rowN l i = r) : clash1 l i = (idxN l r.text r.whole l.length).find? (meetB l r i) := by
  rw [idx_find]
  refine fst_congr (fun j _ => ?_)
  unfold clashB meetB
  rw [hr]
  cases decide (i < j) <;> simp
set_option maxRecDepth 100000 in
set_option maxHeartbeats 4000000 in
theorem air_firstClash (A : Option Addr) (n c base b : Nat) (l : List Rw) (w : World) (hl : RowsAt w A n l) (hm : MapAt w base b l n) (hn : n ≤ 400) (ht : TextsIn l) :
    Calls Tryz.prog 30 #[.slice A n c, .map (some b)] w fun e w' => e = .returned (clV (clashV l)) ∧ New w w' := by
  have hlen := hl.1
  have HL := Lib.hid hl
  have HM := Lib.hid hm
  have HT := Lib.hid ht
  have HLN := Lib.hid hlen
  clear hl hm ht hlen
  go_enter Tryz.func30, Tryz.ntmps30
  go_wp2_with fail
  go_loopw [13] (fun x wr => ∃ k : Nat, k ≤ n ∧ x = .int .i64 k ∧ New w wr ∧ Hid (∀ j, j < k → clash1 l j = none)) (fun x _ => n - (intOf x).toNat)
  case atStart => exact ⟨0, by omega, rfl, New.refl w, Lib.hid (fun j hj => by omega)⟩
  case round =>
    obtain ⟨k, hk, rfl, hnew, HK⟩ := hrel
    by_cases hlt : k < n
    · obtain ⟨bb, off, r, rfl, hr, _, hrow⟩ := HL.out.row hnew hlt
      obtain ⟨c0, c1, c2, c3, c4, c5, c6⟩ := hrow
      have hrn : rowN l k = r := by simp [rowN, List.getD, hr]
      have HCF : Hid (clash1 l k = (idxN l r.text r.whole n).find? (meetB l r k)) := by
        have h := clash_find hrn
        rw [HLN.out] at h
        exact Lib.hid h
      have htx : r.text.length ≤ maxLen := by unfold maxLen; exact HT.out r (List.mem_of_getElem? hr)
      have HRI := Lib.hid (RowIn.new wr r)
      have HN1 := Lib.hid (hnew.trans ((New.refl wr).alloc (.cells #[.string (B r.text), .int .i64 r.country, .int .i64 r.zone, .int .i64 r.cont, .int .i64 r.frm, .int .i64 r.til, .bool r.whole] 49)))
      clear hr hrn
      go_wp2_with fail
      refine (air_keyOf r _).mono ?_
      rintro e w1 ⟨rfl, h1⟩
      replace HRI := Lib.hid (HRI.out.keep h1)
      replace HN1 := Lib.hid (HN1.out.trans h1)
      clear h1 c0 c1 c2 c3 c4 c5 c6
      obtain ⟨v, hrun, hv⟩ := (HM.out.keep HN1.out).look (by unfold maxLen; omega) r.text r.whole htx
      rcases hv with ⟨rfl, h0⟩ | ⟨g, cap, rfl, hc⟩
      · have HZ : Hid (clash1 l k = none) := by
          have h := HCF.out
          rw [h0] at h
          exact Lib.hid h
        clear h0
        go_wp2_with fail
        go_loopw [23] (fun x wr => x = .int .i64 0 ∧ New w1 wr) (fun _ _ => 0)
        case atStart => exact ⟨rfl, New.refl w1⟩
        case round =>
          obtain ⟨rfl, hnew2⟩ := hrel
          go_wp2_with fail
          exact ⟨⟨k + 1, by omega, rfl, HN1.out.trans hnew2, Lib.hid (fun j hj => by
            by_cases hjk : j = k
            · rw [hjk]; exact HZ.out
            · exact HK.out j (by omega))⟩, by simp [intOf]; omega⟩
      · have HIL := Lib.hid (fun x (hx : x ∈ idxN l r.text r.whole n) => idx_lt hx)
        have hil := idx_len l r.text r.whole n
        have HC := Lib.hid hc
        clear hc
        generalize idxN l r.text r.whole n = ids at *
        go_wp2_with fail
        clear hrun
        go_loopw [23] (fun x wr => ∃ q : Nat, q ≤ ids.length ∧ x = .int .i64 q ∧ New w1 wr ∧ Hid (clash1 l k = (ids.drop q).find? (meetB l r k))) (fun x _ => ids.length - (intOf x).toNat)
        case atStart => exact ⟨0, by omega, rfl, New.refl w1, HCF⟩
        case round =>
          obtain ⟨q, hq, rfl, hnew2, HF⟩ := hrel
          have HNB := Lib.hid (HN1.out.trans hnew2)
          by_cases hlq : q < ids.length
          · have hck := hnew2.cellOf (HC.out q hlq)
            have hx := HIL.out _ (List.getElem_mem hlq)
            have HD := Lib.hid (List.drop_eq_getElem_cons hlq)
            generalize ids[q] = x at *
            obtain ⟨bb2, off2, y, hA, hy, _, hrow2⟩ := HL.out.row HNB.out hx
            injection hA with hA
            injection hA with hA1 hA2 hA3
            subst hA1 hA2
            obtain ⟨c0, c1, c2, c3, c4, c5, c6⟩ := hrow2
            obtain ⟨r0, r1, r2, r3, r4, r5, r6⟩ := (HRI.out.keep hnew2).cells
            simp only [Nat.zero_add] at r1 r2 r3 r4 r5 r6
            have HMB : Hid (meetB l r k x = (decide (k < x) && (decide (y.frm ≤ r.til) && decide (r.frm ≤ y.til)))) := by
              have hyn : rowN l x = y := by simp [rowN, List.getD, hy]
              have h : meetB l r k x = (decide (k < x) && (decide (y.frm ≤ r.til) && decide (r.frm ≤ y.til))) := by unfold meetB; rw [hyn]
              exact Lib.hid h
            clear hy
            have hx1 : (0 : Int) ≤ (x : Int) := by omega
            have hx2 : (x : Int) < (n : Int) := by omega
            have HNO : Hid (meetB l r k x = false → clash1 l k = (ids.drop (q + 1)).find? (meetB l r k)) := Lib.hid (fun hf => by
              have h := HF.out
              rw [HD.out, find_cons_f hf] at h
              exact h)
            cases g1 : decide (k < x) with
            | false =>
              have HG := Lib.hid (HNO.out (by rw [HMB.out, g1]; rfl))
              go_wp2_with fail
              go_quiet (fail)
              clear c0 c1 c2 c3 c4 c5 c6 r0 r1 r2 r3 r4 r5 r6 hck g1
              go_wp2_with fail
              exact ⟨⟨q + 1, by omega, rfl, hnew2.drewN _, HG⟩, by simp [intOf]; omega⟩
            | true =>
              cases g2 : decide (y.frm ≤ r.til) with
              | false =>
                have HG := Lib.hid (HNO.out (by rw [HMB.out, g1, g2]; rfl))
                go_wp2_with fail
                go_quiet (fail)
                clear c0 c1 c2 c3 c4 c5 c6 r0 r1 r2 r3 r4 r5 r6 hck g1 g2
                go_wp2_with fail
                exact ⟨⟨q + 1, by omega, rfl, hnew2.drewN _, HG⟩, by simp [intOf]; omega⟩
              | true =>
                cases g3 : decide (r.frm ≤ y.til) with
                | false =>
                  have HG := Lib.hid (HNO.out (by rw [HMB.out, g1, g2, g3]; rfl))
                  go_wp2_with fail
                  go_quiet (fail)
                  clear c0 c1 c2 c3 c4 c5 c6 r0 r1 r2 r3 r4 r5 r6 hck g1 g2 g3
                  go_wp2_with fail
                  exact ⟨⟨q + 1, by omega, rfl, hnew2.drewN _, HG⟩, by simp [intOf]; omega⟩
                | true =>
                  have HG : Hid (clashV l = some (k, x)) := by
                    have h := HF.out
                    rw [HD.out, find_cons_t (by rw [HMB.out, g1, g2, g3]; rfl)] at h
                    exact Lib.hid (clashV_some (by rw [HLN.out]; exact hlt) h HK.out)
                  go_wp2_with fail
                  go_quiet (fail)
                  clear c0 c1 c2 c3 c4 c5 c6 r0 r1 r2 r3 r4 r5 r6 hck g1 g2 g3
                  go_wp2_with fail
                  go_ret3
                  exact ⟨by rw [HG.out]; rfl, HNB.out.drewN _⟩
          · have HZ : Hid (clash1 l k = none) := by
              have h := HF.out
              rw [List.drop_eq_nil_of_le (by omega)] at h
              exact Lib.hid h
            go_wp2_with fail
            exact ⟨⟨k + 1, by omega, rfl, HNB.out, Lib.hid (fun j hj => by
              by_cases hjk : j = k
              · rw [hjk]; exact HZ.out
              · exact HK.out j (by omega))⟩, by simp [intOf]; omega⟩
    · have HZ : Hid (clashV l = none) := Lib.hid (clashV_none (fun j hj => HK.out j (by rw [HLN.out] at hj; omega)))
      go_wp2_with fail
      go_ret3
      exact ⟨by rw [HZ.out]; rfl, hnew⟩

end Go.Proofs.YtkbdmdnahphkkaaGreatDoor
