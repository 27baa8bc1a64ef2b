/-
  Opening a row's arguments of types Layout and Sent.
-/
import Derived.Test.YthodoabppkeidaaDoorCpAsk
import Derived.Test.YthodoabppkeidaaDoorCpLine
namespace Go.Proofs.YthodoabppkeidaaDoor
open Go Go.RowKit
open Go.ChangeShapes Go.WideShapes Go.ChangeAt Go.Deep
set_option maxRecDepth 100000 in
theorem ok_int {W : World} {t : TypeId} {v : Value} (ht : Tryd.prog.underlying t = some (.int .i64)) (h : Cell.okWide Tryd.prog W .any 0 t v) : ∃ n, v = .int .i64 n := by
  unfold Cell.okWide at h
  rw [ht] at h
  simp only at h
  unfold Cell.ok at h
  rw [ht] at h
  cases v <;> simp at h
  case int k n => exact ⟨n, by rw [h.1]⟩
set_option maxRecDepth 100000 in
theorem ok_bool {W : World} {t : TypeId} {v : Value} (ht : Tryd.prog.underlying t = some .bool) (h : Cell.okWide Tryd.prog W .any 0 t v) : ∃ n, v = .bool n := by
  unfold Cell.okWide at h
  rw [ht] at h
  simp only at h
  unfold Cell.ok at h
  rw [ht] at h
  cases v <;> simp at h
  case bool n => exact ⟨n, rfl⟩
set_option maxRecDepth 100000 in
theorem ok_str {W : World} {t : TypeId} {v : Value} (ht : Tryd.prog.underlying t = some .string) (h : Cell.okWide Tryd.prog W .any 0 t v) : ∃ n, v = .string n := by
  unfold Cell.okWide at h
  rw [ht] at h
  simp only at h
  unfold Cell.ok at h
  rw [ht] at h
  cases v <;> simp at h
  case string n => exact ⟨n, rfl⟩
theorem array3 {α : Type} {cs : Array α} (h : cs.size = 3) : ∃ c0 c1 c2, cs = #[c0, c1, c2] := by
  obtain ⟨l⟩ := cs
  match l, h with
  | [c0, c1, c2], _ => exact ⟨c0, c1, c2, rfl⟩
theorem array15 {α : Type} {cs : Array α} (h : cs.size = 15) : ∃ c0 c1 c2 c3 c4 c5 c6 c7 c8 c9 c10 c11 c12 c13 c14, cs = #[c0, c1, c2, c3, c4, c5, c6, c7, c8, c9, c10, c11, c12, c13, c14] := by
  obtain ⟨l⟩ := cs
  match l, h with
  | [c0, c1, c2, c3, c4, c5, c6, c7, c8, c9, c10, c11, c12, c13, c14], _ => exact ⟨c0, c1, c2, c3, c4, c5, c6, c7, c8, c9, c10, c11, c12, c13, c14, rfl⟩
theorem cells_layout : Tryd.prog.cellsOf 57 = 3 := by kernel_rfl
theorem cells_sent : Tryd.prog.cellsOf 63 = 15 := by kernel_rfl
set_option maxRecDepth 100000 in
theorem open_layout {W : World} {v : Value} (hv : Value.okWide Tryd.prog W .any 0 57 v) : ∃ x y z : Bool, v = layV x y z := by
  obtain ⟨cs, rfl, hsz⟩ := okWide_struct Tryd.underlying57 hv
  obtain ⟨c0, c1, c2, rfl⟩ := array3 (hsz.trans cells_layout)
  have hrow : Row.okWide Tryd.prog W .any 0 57 #[c0, c1, c2] := by
    unfold Value.okWide at hv
    rw [Tryd.underlying57] at hv
    obtain ⟨cs, e, _, hr⟩ := hv
    obtain rfl := Value.agg.inj e
    exact hr
  obtain ⟨ts, hts, _, hall⟩ := hrow
  have hct : Tryd.prog.cellTypes Tryd.prog.depth 57 = some [4, 4, 4] := by kernel_rfl
  obtain rfl := Option.some.inj (hct.symm.trans hts)
  have ok : ∀ (i : Nat) (v : Value) (t : TypeId), #[c0, c1, c2][i]? = some v → [4, 4, 4][i % 3]? = some t → Cell.okWide Tryd.prog W .any 0 t v := fun i v t h1 h2 => by
    obtain ⟨u, hu, hok⟩ := hall i v h1
    obtain rfl : u = t := Option.some.inj (hu.symm.trans h2)
    exact hok
  obtain ⟨x, rfl⟩ := ok_bool Tryd.underlying4 (ok 0 c0 _ rfl rfl)
  obtain ⟨y, rfl⟩ := ok_bool Tryd.underlying4 (ok 1 c1 _ rfl rfl)
  obtain ⟨z, rfl⟩ := ok_bool Tryd.underlying4 (ok 2 c2 _ rfl rfl)
  exact ⟨x, y, z, rfl⟩
/-- What is sent, and a line, as a value. -/
def sentV (S : ByteArray) (a b c n k mode t : Int) (H : ByteArray) (s1 s2 s3 g1 g2 g3 : Int) : Value := .agg #[.string S, .int .i64 a, .int .i64 b, .int .i64 c, .int .i64 n, .int .i64 k, .int .i64 mode, .int .i64 t, .string H, .int .i64 s1, .int .i64 s2, .int .i64 s3, .int .i64 g1, .int .i64 g2, .int .i64 g3]
set_option maxRecDepth 100000 in
theorem open_sent {W : World} {v : Value} (hv : Value.okWide Tryd.prog W .any 0 63 v) : ∃ (S H : ByteArray) (a b c n k mode t s1 s2 s3 g1 g2 g3 : Int), v = sentV S a b c n k mode t H s1 s2 s3 g1 g2 g3 := by
  obtain ⟨cs, rfl, hsz⟩ := okWide_struct Tryd.underlying63 hv
  obtain ⟨c0, c1, c2, c3, c4, c5, c6, c7, c8, c9, c10, c11, c12, c13, c14, rfl⟩ := array15 (hsz.trans cells_sent)
  have hrow : Row.okWide Tryd.prog W .any 0 63 #[c0, c1, c2, c3, c4, c5, c6, c7, c8, c9, c10, c11, c12, c13, c14] := by
    unfold Value.okWide at hv
    rw [Tryd.underlying63] at hv
    obtain ⟨cs, e, _, hr⟩ := hv
    obtain rfl := Value.agg.inj e
    exact hr
  obtain ⟨ts, hts, _, hall⟩ := hrow
  have hct : Tryd.prog.cellTypes Tryd.prog.depth 63 = some [9, 3, 3, 3, 3, 3, 3, 3, 9, 3, 3, 3, 3, 3, 3] := by kernel_rfl
  obtain rfl := Option.some.inj (hct.symm.trans hts)
  have ok : ∀ (i : Nat) (v : Value) (t : TypeId), #[c0, c1, c2, c3, c4, c5, c6, c7, c8, c9, c10, c11, c12, c13, c14][i]? = some v → [9, 3, 3, 3, 3, 3, 3, 3, 9, 3, 3, 3, 3, 3, 3][i % 15]? = some t → Cell.okWide Tryd.prog W .any 0 t v := fun i v t h1 h2 => by
    obtain ⟨u, hu, hok⟩ := hall i v h1
    obtain rfl : u = t := Option.some.inj (hu.symm.trans h2)
    exact hok
  obtain ⟨S, rfl⟩ := ok_str Tryd.underlying9 (ok 0 c0 _ rfl rfl)
  obtain ⟨H, rfl⟩ := ok_str Tryd.underlying9 (ok 8 c8 _ rfl rfl)
  obtain ⟨a, rfl⟩ := ok_int Tryd.underlying3 (ok 1 c1 _ rfl rfl)
  obtain ⟨b, rfl⟩ := ok_int Tryd.underlying3 (ok 2 c2 _ rfl rfl)
  obtain ⟨c, rfl⟩ := ok_int Tryd.underlying3 (ok 3 c3 _ rfl rfl)
  obtain ⟨n, rfl⟩ := ok_int Tryd.underlying3 (ok 4 c4 _ rfl rfl)
  obtain ⟨k, rfl⟩ := ok_int Tryd.underlying3 (ok 5 c5 _ rfl rfl)
  obtain ⟨m, rfl⟩ := ok_int Tryd.underlying3 (ok 6 c6 _ rfl rfl)
  obtain ⟨t, rfl⟩ := ok_int Tryd.underlying3 (ok 7 c7 _ rfl rfl)
  obtain ⟨s1, rfl⟩ := ok_int Tryd.underlying3 (ok 9 c9 _ rfl rfl)
  obtain ⟨s2, rfl⟩ := ok_int Tryd.underlying3 (ok 10 c10 _ rfl rfl)
  obtain ⟨s3, rfl⟩ := ok_int Tryd.underlying3 (ok 11 c11 _ rfl rfl)
  obtain ⟨g1, rfl⟩ := ok_int Tryd.underlying3 (ok 12 c12 _ rfl rfl)
  obtain ⟨g2, rfl⟩ := ok_int Tryd.underlying3 (ok 13 c13 _ rfl rfl)
  obtain ⟨g3, rfl⟩ := ok_int Tryd.underlying3 (ok 14 c14 _ rfl rfl)
  exact ⟨S, H, a, b, c, n, k, m, t, s1, s2, s3, g1, g2, g3, rfl⟩
/-- A line that copies exactly costs nothing, any other one something. -/
theorem exB_self {x y z : Bool} {a b c a' b' c' : Int} (h : exB x y z a b c a' b' c' = true) : exB x y z a b c a b c = true := by
  have e : ∀ (x : Bool) (a b m : Int), pvB x a b m = true → pvB x a a m = true := fun x a b m h => by
    unfold pvB at h ⊢
    split <;> simp_all
  simp only [exB, Bool.and_eq_true] at h ⊢
  exact ⟨e _ _ _ _ h.1, e _ _ _ _ h.2.1, e _ _ _ _ h.2.2⟩
theorem exE_self {mode : Int} {x y z : Bool} {a b c a' b' c' : Int} (h : exE mode x y z a b c a' b' c' = 0) : exE mode x y z a b c a b c = 0 := by
  obtain ⟨h1, h2⟩ := exE_zero h
  rw [exE, if_neg h1, if_pos (exB_self h2)]
theorem exC_zero (F : List Bytes) {mode : Int} {x y z : Bool} {a b c a' b' c' : Int} (h : exE mode x y z a b c a' b' c' = 0) : exC F mode x y z a b c a' b' c' = 0 ↔ a = a' ∧ b = b' ∧ c = c' := by
  obtain ⟨h1, h2⟩ := exE_zero h
  simp only [exB, Bool.and_eq_true] at h2
  have e1 := cpnC_zero F (pv_cpn h1 (by decide) h2.1)
  have e2 := cpnC_zero F (pv_cpn h1 (by decide) h2.2.1)
  have e3 := cpnC_zero F (pv_cpn h1 (by decide) h2.2.2)
  rw [exC, if_pos h, ← e1, ← e2, ← e3]
  show 0 + cpnC F mode a a' + cpnC F mode b b' + cpnC F mode c c' = 0 ↔ _
  omega
theorem hearE_self {mode : Int} {s h : Bytes} (e : hearE mode s h = 0) : hearE mode s s = 0 := by
  obtain ⟨m, a, b, hm, ha, hb, ls, lh⟩ := hearE_ok e
  exact hearE_mk hm ha ha ls ls
theorem lnE_zero {mode : Int} {s h : Bytes} {x y z : Bool} {a b c a' b' c' : Int} (e : lnE mode s h x y z a b c a' b' c' = 0) : hearE mode s h = 0 ∧ exE mode x y z a b c a' b' c' = 0 := by
  unfold lnE at e
  split at e
  · next h1 => exact ⟨h1, e⟩
  · next h1 => exact absurd e h1
theorem ln_self (F : List Bytes) {mode : Int} {s h : Bytes} {x y z : Bool} {a b c a' b' c' : Int} (e : lnE mode s h x y z a b c a' b' c' = 0) : lnE mode s s x y z a b c a b c = 0 ∧ lnC F mode s s x y z a b c a b c = 0 := by
  obtain ⟨h1, h2⟩ := lnE_zero e
  have h3 := hearE_self h1
  have h4 := exE_self h2
  have e1 : lnE mode s s x y z a b c a b c = 0 := by rw [lnE, if_pos h3, h4]
  refine ⟨e1, ?_⟩
  rw [lnC, if_pos e1, (costC_zero F h3).2 rfl, (exC_zero F h4).2 ⟨rfl, rfl, rfl⟩]
end Go.Proofs.YthodoabppkeidaaDoor
