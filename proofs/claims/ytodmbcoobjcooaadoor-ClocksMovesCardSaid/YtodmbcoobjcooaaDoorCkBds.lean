/-
  Bounds of the program and of the specification, and SameBounds. Condition: the system lies in memory.
-/
import Derived.Test.YtodmbcoobjcooaaDoorCkRf
import Derived.Test.YtodmbcoobjcooaaDoorCkColl
import Derived.Test.YtodmbcoobjcooaaDoorCkRfB
namespace Go.Proofs.YtodmbcoobjcooaaDoor
open Go Go.RowKit Go.Shelf
attribute [local go_sem] Oper.semAt_some
end Go.Proofs.YtodmbcoobjcooaaDoor

namespace Go.Proofs.YtodmbcoobjcooaaDoor
open Go Go.RowKit Go.Shelf
attribute [local go_sem] Oper.semAt_some
/-- A slice of bounds, or nil. -/
def BdsA (w : World) (V : Value) (l : List Bd) : Prop := ∃ base, w.ownsRow base 91 7 V l.length (l.flatMap bdCs)
theorem BdsA.keep {w w' : World} {V : Value} {l : List Bd} (h : BdsA w V l) (k : New w w') : BdsA w' V l := by
  obtain ⟨base, h⟩ := h
  exact ⟨base, owns_keep h k⟩
theorem BdsA.nil (w : World) : BdsA w (.slice none 0 0) [] := ⟨0, World.ownsRow_nil _ _ _ _⟩
/-- What Bounds answers. -/
def bdsOf (s : Sy) : List Bd := if checkE s = 0 then bnds s else []
theorem ck_Collect (s : Sy) (hs : Ok s) (A D : Option Addr) (c d Bs : Nat) (w : World) (hM : SysM w A D s) (hbeg : BegA w) (hR : RowIs w Bs 25 [.slice A s.tracks.length c, .slice D s.ties.length d, .int .i64 s.window]) :
    Calls Tryd.prog 68 #[.func (.func 113) #[] #[.pointer (some ⟨Bs, 0, none⟩)]] w fun e w' => ∃ V, e = .returned V ∧ BdsA w' V (bnds s) ∧ New w w' := by
  have HA := Lib.hid (ck_AppendSeq s hs A D c d Bs w hM hbeg hR)
  clear hs hM hbeg hR
  go_enter Tryd.func68, Tryd.ntmps68
  go_wp2_with fail
  refine HA.out.mono ?_
  rintro e w1 ⟨V, rfl, ho, m1⟩
  go_wp2_with fail
  go_ret
  exact ⟨_, rfl, ⟨_, ho⟩, m1⟩
theorem ck_boundsC (v0 v1 v2 : Value) (w : World) : Calls Tryd.prog 69 #[.agg #[v0, v1, v2]] w fun e w' => e = .returned (.func (.func 113) #[] #[.pointer (some ⟨w.heap.size, 0, none⟩)]) ∧ w' = w.alloc (.cells #[v0, v1, v2] 25) :=
  (callsIn_wide (n := 6)).1 (ck_bounds v0 v1 v2 6 w)
set_option maxRecDepth 100000 in
set_option maxHeartbeats 4000000 in
theorem ck_Bounds (s : Sy) (A D : Option Addr) (c d : Nat) (w : World) (hM : SysM w A D s) (hbeg : BegA w) :
    Calls Tryd.prog 19 #[.agg #[.slice A s.tracks.length c, .slice D s.ties.length d, .int .i64 s.window]] w fun e w' => ∃ V, e = .returned (.tuple #[V, .int .i64 (checkE s)]) ∧ BdsA w' V (bdsOf s) ∧ New w w' := by
  have n1 := (New.refl w).alloc (.cells #[.slice A s.tracks.length c, .slice D s.ties.length d, .int .i64 s.window] 25)
  have HR := Lib.hid (RowIs.new w 25 [.slice A s.tracks.length c, .slice D s.ties.length d, .int .i64 s.window])
  have HN := Lib.hid n1
  have HC := Lib.hid (ck_Check s A D c d _ (hM.keep n1))
  have HM := Lib.hid hM
  have HBG := Lib.hid hbeg
  have c0 := HR.out.cell (i := 0) rfl
  have c1 := HR.out.cell (i := 1) rfl
  have c2 := HR.out.cell (i := 2) rfl
  clear n1 hM hbeg
  by_cases he : checkE s = 0
  · have HE := Lib.hid he
    rw [he] at HC
    have hb : bdsOf s = bnds s := by unfold bdsOf; rw [if_pos he]
    rw [he, hb]
    clear he hb
    go_enter Tryd.func19, Tryd.ntmps19
    go_wp2_with fail
    refine HC.out.mono ?_
    rintro e w1 ⟨rfl, m1⟩
    clear c0 c1 c2
    have c0 := (HR.out.keep m1).cell (i := 0) rfl
    have c1 := (HR.out.keep m1).cell (i := 1) rfl
    have c2 := (HR.out.keep m1).cell (i := 2) rfl
    have m2 := (New.refl w1).alloc (.cells #[.slice A s.tracks.length c, .slice D s.ties.length d, .int .i64 s.window] 25)
    have HN2 := Lib.hid (HN.out.trans (m1.trans m2))
    have HCL := Lib.hid (ck_Collect s HE.out A D c d w1.heap.size _ (HM.out.keep HN2.out) ⟨HN2.out.cellOf HBG.out.1, HN2.out.cellOf HBG.out.2⟩ (RowIs.new w1 25 [.slice A s.tracks.length c, .slice D s.ties.length d, .int .i64 s.window]))
    clear m1 m2
    go_wp2_with fail
    refine (ck_boundsC _ _ _ _).mono ?_
    rintro e w2 ⟨rfl, rfl⟩
    go_wp2_with fail
    refine HCL.out.mono ?_
    rintro e w3 ⟨V, rfl, hb, m3⟩
    go_wp2_with fail
    go_ret2
    exact ⟨V, rfl, hb, HN2.out.trans m3⟩
  · have HE := Lib.hid he
    have hb : bdsOf s = [] := by unfold bdsOf; rw [if_neg he]
    have hne : (checkE s != 0) = true := by simpa using he
    rw [hb]
    clear he hb
    generalize checkE s = ce at *
    go_enter Tryd.func19, Tryd.ntmps19
    go_wp2_with fail
    refine HC.out.mono ?_
    rintro e w1 ⟨rfl, m1⟩
    go_wp2_with fail
    go_ret2
    exact ⟨_, rfl, BdsA.nil _, HN.out.trans m1⟩
set_option maxRecDepth 100000 in
set_option maxHeartbeats 4000000 in
theorem rf_Bounds (s : Sy) (A D : Option Addr) (c d : Nat) (w : World) (hM : SysM w A D s) :
    Calls Tryd.prog 20 #[.agg #[.slice A s.tracks.length c, .slice D s.ties.length d, .int .i64 s.window]] w fun e w' => ∃ V, e = .returned (.tuple #[V, .int .i64 (checkE s)]) ∧ BdsA w' V (bdsOf s) ∧ New w w' := by
  have n1 := (New.refl w).alloc (.cells #[.slice A s.tracks.length c, .slice D s.ties.length d, .int .i64 s.window] 25)
  have HR := Lib.hid (RowIs.new w 25 [.slice A s.tracks.length c, .slice D s.ties.length d, .int .i64 s.window])
  have HN := Lib.hid n1
  have HC := Lib.hid (rf_Check s A D c d _ (hM.keep n1))
  have HM := Lib.hid hM
  have c0 := HR.out.cell (i := 0) rfl
  have c1 := HR.out.cell (i := 1) rfl
  have c2 := HR.out.cell (i := 2) rfl
  clear n1 hM
  by_cases he : checkE s = 0
  · have HE := Lib.hid he
    rw [he] at HC
    have hb : bdsOf s = bnds s := by unfold bdsOf; rw [if_pos he]
    rw [he, hb]
    clear he hb
    go_enter Tryd.func20, Tryd.ntmps20
    go_wp2_with fail
    refine HC.out.mono ?_
    rintro e w1 ⟨rfl, m1⟩
    clear c0 c1 c2
    have c0 := (HR.out.keep m1).cell (i := 0) rfl
    have c1 := (HR.out.keep m1).cell (i := 1) rfl
    have c2 := (HR.out.keep m1).cell (i := 2) rfl
    have HBD := Lib.hid (rf_bounds s HE.out A D c d w1 (HM.out.keep (HN.out.trans m1)))
    go_wp2_with fail
    refine HBD.out.mono ?_
    rintro e w2 ⟨V, rfl, hb, m2⟩
    go_wp2_with fail
    go_ret2
    exact ⟨V, rfl, ⟨_, hb⟩, HN.out.trans (m1.trans m2)⟩
  · have HE := Lib.hid he
    have hb : bdsOf s = [] := by unfold bdsOf; rw [if_neg he]
    have hne : (checkE s != 0) = true := by simpa using he
    rw [hb]
    clear he hb
    generalize checkE s = ce at *
    go_enter Tryd.func20, Tryd.ntmps20
    go_wp2_with fail
    refine HC.out.mono ?_
    rintro e w1 ⟨rfl, m1⟩
    go_wp2_with fail
    go_ret2
    exact ⟨_, rfl, BdsA.nil _, HN.out.trans m1⟩
set_option maxRecDepth 100000 in
set_option maxHeartbeats 4000000 in
theorem rf_SameBounds (l : List Bd) (V U : Value) (w : World) (hV : BdsA w V l) (hU : BdsA w U l) :
    Calls Tryd.prog 27 #[V, U] w fun e w' => e = .returned (.bool true) ∧ New w w' := by
  obtain ⟨b1, hV⟩ := hV
  obtain ⟨b2, hU⟩ := hU
  obtain ⟨VA, vc, rfl⟩ := owns_form hV
  obtain ⟨UA, uc, rfl⟩ := owns_form hU
  have HV := Lib.hid hV
  have HU := Lib.hid hU
  have hln : l.length ≤ 9223372036854775807 := by
    rcases hV.2 with ⟨_, h⟩ | ⟨g, cap, cur, e, _, _, h1, h2, _⟩
    · omega
    · unfold maxLen at h2; omega
  clear hV hU
  go_enter Tryd.func27, Tryd.ntmps27
  go_wp2_with fail
  go_loopw [5] (fun i wr => ∃ k : Nat, k ≤ l.length ∧ i = .int .i64 k ∧ New w wr) (fun i _ => l.length - (intOf i).toNat)
  case atStart => exact ⟨0, Nat.zero_le _, rfl, New.refl _⟩
  case round =>
    obtain ⟨k, hk, rfl, hn⟩ := hrel
    have HNW := Lib.hid hn
    by_cases hlt : k < l.length
    · have hv := owns_keep HV.out hn
      have hu := owns_keep HU.out hn
      obtain ⟨gv, rfl⟩ : ∃ gv, VA = some ⟨gv, 0, none⟩ := by
        rcases hv.2 with ⟨_, h⟩ | ⟨g, cap, cur, e, _⟩
        · omega
        · simp only [Value.slice.injEq] at e; exact ⟨g, e.1⟩
      obtain ⟨gu, rfl⟩ : ∃ gu, UA = some ⟨gu, 0, none⟩ := by
        rcases hu.2 with ⟨_, h⟩ | ⟨g, cap, cur, e, _⟩
        · omega
        · simp only [Value.slice.injEq] at e; exact ⟨g, e.1⟩
      have kv : ∀ r, r < 7 → wr.cell? ⟨gv, k * 7 + r, none⟩ = (bdCs l[k])[r]? := fun r hr => by rw [hv.cellAt (k * 7 + r) (by omega), fm_get bdCs 7 (fun _ => rfl) l k r hlt hr]
      have ku : ∀ r, r < 7 → wr.cell? ⟨gu, k * 7 + r, none⟩ = (bdCs l[k])[r]? := fun r hr => by rw [hu.cellAt (k * 7 + r) (by omega), fm_get bdCs 7 (fun _ => rfl) l k r hlt hr]
      generalize l[k] = b at *
      obtain ⟨⟨fl, fi⟩, ⟨tl, ti⟩, mo, kd, id⟩ := b
      have v0 := kv 0 (by omega)
      have v1 := kv 1 (by omega)
      have v2 := kv 2 (by omega)
      have v3 := kv 3 (by omega)
      have v4 := kv 4 (by omega)
      have v5 := kv 5 (by omega)
      have v6 := kv 6 (by omega)
      have u0 := ku 0 (by omega)
      have u1 := ku 1 (by omega)
      have u2 := ku 2 (by omega)
      have u3 := ku 3 (by omega)
      have u4 := ku 4 (by omega)
      have u5 := ku 5 (by omega)
      have u6 := ku 6 (by omega)
      simp only [bdCs, List.getElem?_cons_zero, List.getElem?_cons_succ, Nat.add_zero] at v0 v1 v2 v3 v4 v5 v6 u0 u1 u2 u3 u4 u5 u6
      have ik : (k : Int) < (l.length : Int) := by omega
      clear kv ku hv hu hn
      go_wp2_with fail
      go_quiet (fail)
      go_wp2_with fail
      go_roundw
      case rel => exact ⟨k + 1, by omega, by go_num, HNW.out.trans ((New.refl _).drewN nq)⟩
      case measure => simp [intOf]; omega
    · obtain rfl : k = l.length := by omega
      clear hn
      go_wp2_with fail
      go_ret
      exact ⟨rfl, HNW.out⟩
end Go.Proofs.YtodmbcoobjcooaaDoor
