/-
  checkOffer of the program. Condition: the system and the ties lie in memory.
-/
import Derived.Test.YtodmbcoobjcooaaDoorCkNames
namespace Go.Proofs.YtodmbcoobjcooaaDoor
open Go Go.RowKit Go.Shelf
attribute [local go_sem] Oper.semAt_some
def offerE (s : Sy) (l : List Ti) : Int := if checkE s ≠ 0 then checkE s else tiesE s l
set_option maxRecDepth 100000 in
set_option maxHeartbeats 4000000 in
theorem ck_checkOffer (s : Sy) (A D L : Option Addr) (c d lc : Nat) (l : List Ti) (w : World) (hM : SysM w A D s) (hL : TisA w L l) :
    Calls Tryd.prog 96 #[.agg #[.slice A s.tracks.length c, .slice D s.ties.length d, .int .i64 s.window], .slice L l.length lc] w fun e w' => e = .returned (.int .i64 (offerE s l)) ∧ New w w' := by
  have n1 := (New.refl w).alloc (.cells #[.slice A s.tracks.length c, .slice D s.ties.length d, .int .i64 s.window] 25)
  have HR := Lib.hid (RowIs.new w 25 [.slice A s.tracks.length c, .slice D s.ties.length d, .int .i64 s.window])
  have HN := Lib.hid n1
  have HC := Lib.hid (ck_Check s A D c d _ (hM.keep n1))
  have HT : Hid (∀ w', New w w' → Calls Tryd.prog 71 #[.agg #[.slice A s.tracks.length c, .slice D s.ties.length d, .int .i64 s.window], .slice L l.length lc] w' fun e w'' => e = .returned (.int .i64 (tiesE s l)) ∧ New w' w'') := Lib.hid fun w' h => ck_checkTies s A D L c s.ties.length d lc s.window l w' (hM.1.keep h) (hL.keep h)
  clear n1 hM hL
  by_cases he : checkE s = 0
  · have ho : offerE s l = tiesE s l := by unfold offerE; rw [if_neg (by simp [he])]
    rw [ho]
    rw [he] at HC
    go_enter Tryd.func96, Tryd.ntmps96
    go_wp2_with fail
    refine HC.out.mono ?_
    rintro e w1 ⟨rfl, m1⟩
    have z0 := (HR.out.keep m1).cell (i := 0) rfl
    have z1 := (HR.out.keep m1).cell (i := 1) rfl
    have z2 := (HR.out.keep m1).cell (i := 2) rfl
    go_wp2_with fail
    refine (HT.out _ (HN.out.trans m1)).mono ?_
    rintro e w2 ⟨rfl, m2⟩
    go_wp2_with fail
    go_ret
    exact ⟨rfl, (HN.out.trans m1).trans m2⟩
  · have ho : offerE s l = checkE s := by unfold offerE; rw [if_pos he]
    rw [ho]
    clear HT
    go_enter Tryd.func96, Tryd.ntmps96
    go_wp2_with fail
    refine HC.out.mono ?_
    rintro e w1 ⟨rfl, m1⟩
    go_wp2_with fail
    go_ret
    exact ⟨rfl, HN.out.trans m1⟩
end Go.Proofs.YtodmbcoobjcooaaDoor
