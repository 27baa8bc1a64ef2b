/-
  sort.Search with the second closure of Since: the first turn behind a day. Conditions: what the closure captures lies in memory; the turns rise, at most 100000.
-/
import Derived.Test.YtkbdmdnahphkkaaGreatDoorTabSame
namespace Go.Proofs.YtkbdmdnahphkkaaGreatDoor
open Go.RowKit
def overB (ts : List Int) (day : Int) (i : Nat) : Bool := decide (day < ts.getD i 0)
set_option maxHeartbeats 2000000 in
theorem lib_Search (day : Int) (g m cap gt gd : Nat) (ts : List Int) (w : World) (ht : TurnsAt w g ts) (hm : ts.length = m) (hm1 : m ≤ 100000) (h1 : OneIn w gt (.slice (some ⟨g, 0, none⟩) m cap) 51) (h2 : OneIn w gd (.int .i64 day) 3)
    (mono : ∀ i j, i ≤ j → j < m → overB ts day i = true → overB ts day j = true) :
    Calls Tryz.prog 42 #[.int .i64 m, .func (.func 43) #[] #[.pointer (some ⟨gt, 0, none⟩), .pointer (some ⟨gd, 0, none⟩)]] w fun e w' =>
      ∃ r : Nat, e = .returned (.int .i64 r) ∧ New w w' ∧ r ≤ m ∧ (∀ k, k < r → overB ts day k = false) ∧ (∀ k, r ≤ k → k < m → overB ts day k = true) := by
  have HF : Hid (∀ (i : Nat) (u : World), i < m → New w u → Calls Tryz.prog 43 #[.int .i64 i, .pointer (some ⟨gt, 0, none⟩), .pointer (some ⟨gd, 0, none⟩)] u fun e w' => e = .returned (.bool (overB ts day i)) ∧ New u w') :=
    Lib.hid (fun i u hi hu => air_over i day g m cap gt gd ts u (by omega) (ht.keep hu) hm (h1.keep hu) (h2.keep hu))
  have HM := Lib.hid mono
  clear ht h1 h2 mono
  go_enter Tryz.func42, Tryz.ntmps42
  go_wp2_with fail
  go_loopw [5, 6] (fun x y wr => ∃ i j : Nat, x = .int .i64 i ∧ y = .int .i64 j ∧ i ≤ j ∧ j ≤ m ∧ New w wr ∧ Hid (∀ k, k < i → overB ts day k = false) ∧ Hid (∀ k, j ≤ k → k < m → overB ts day k = true)) (fun x y _ => (intOf y).toNat - (intOf x).toNat)
  case atStart => exact ⟨0, m, rfl, rfl, by omega, by omega, New.refl w, Lib.hid (fun k h => by omega), Lib.hid (fun k h1 h2 => by omega)⟩
  case round =>
    obtain ⟨i, j, rfl, rfl, hij, hjm, hnew, H0, H1⟩ := hrel
    by_cases hlt : i < j
    · have hq : (i : Int) < (j : Int) := by omega
      go_wp2_with fail
      obtain ⟨h, hh, hi1, hi2⟩ : ∃ h : Nat, ((i : Int) + (j : Int)) / 2 = (h : Int) ∧ i ≤ h ∧ h < j := ⟨(i + j) / 2, by omega, by omega, by omega⟩
      rw [hh]
      clear hh hq
      refine (HF.out h wr (by omega) hnew).mono ?_
      rintro e w1 ⟨rfl, hw1⟩
      cases hv : overB ts day h with
      | true =>
        have HV := Lib.hid (fun k (h1 : h ≤ k) (h2 : k < m) => HM.out h k h1 h2 hv)
        clear hv
        go_wp2_with fail
        exact ⟨⟨i, h, rfl, rfl, hi1, by omega, hnew.trans hw1, H0, HV⟩, by simp [intOf]; omega⟩
      | false =>
        have HV : Hid (∀ k, k < h + 1 → overB ts day k = false) := Lib.hid (fun k h1 => by
          cases hq : overB ts day k with
          | false => rfl
          | true => rw [HM.out k h (by omega) (by omega) hq] at hv; cases hv)
        clear hv
        go_wp2_with fail
        exact ⟨⟨h + 1, j, rfl, rfl, by omega, hjm, hnew.trans hw1, HV, H1⟩, by simp [intOf]; omega⟩
    · have hq : ¬ (i : Int) < (j : Int) := by omega
      obtain rfl : i = j := by omega
      go_wp2_with fail
      go_ret
      exact ⟨i, rfl, hnew, hjm, H0.out, H1.out⟩

end Go.Proofs.YtkbdmdnahphkkaaGreatDoor
