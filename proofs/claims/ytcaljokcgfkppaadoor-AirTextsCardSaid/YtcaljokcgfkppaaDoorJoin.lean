/-
  Join of the program, for all parts of at most 10000 bytes in a world that has the library's variable MaxLen; Split and Join undo each other, and a base is its own base.
-/
import Derived.Test.YtcaljokcgfkppaaDoorSame
namespace Go.Proofs.YtcaljokcgfkppaaDoor
open Go.RowKit
instance : DecidableEq P4 := fun x y => decidable_of_iff (x.area = y.area ∧ x.pre = y.pre ∧ x.suf = y.suf ∧ x.stroke = y.stroke) (by cases x; cases y; simp)
/-- The text of parts, as it is put together. -/
def joinL (q : P4) : Bytes := (if q.area = [] then [] else q.area ++ [47]) ++ (q.pre ++ q.suf) ++ (if q.stroke = [] then [] else 47 :: q.stroke)
def joinV (q : P4) : Option Bytes := if splitV (joinL q) = some q then some (joinL q) else none
theorem bytes_ne {a b : Bytes} (h : ¬ a = b) : ¬ (B a).toList = (B b).toList := by
  rw [Lib.toList_data, Lib.toList_data]
  exact h
theorem cmp4 (x y : P4) : x = y ∨ (¬ x = y ∧ (¬ (B x.area).toList = (B y.area).toList ∨ ¬ (B x.pre).toList = (B y.pre).toList ∨ ¬ (B x.suf).toList = (B y.suf).toList ∨ ¬ (B x.stroke).toList = (B y.stroke).toList)) := by
  by_cases h : x = y
  · exact Or.inl h
  · refine Or.inr ⟨h, ?_⟩
    by_cases h1 : x.area = y.area
    · by_cases h2 : x.pre = y.pre
      · by_cases h3 : x.suf = y.suf
        · exact Or.inr (Or.inr (Or.inr (bytes_ne fun h4 => h (by cases x; cases y; simp_all))))
        · exact Or.inr (Or.inr (Or.inl (bytes_ne h3)))
      · exact Or.inr (Or.inl (bytes_ne h2))
    · exact Or.inl (bytes_ne h1)
set_option maxHeartbeats 2000000 in
theorem air_Join (a p q r : Bytes) (w : World) (hm : HasMax w) (hl : a.length + p.length + q.length + r.length ≤ 10000) :
    Calls Tryd.prog 20 #[.agg #[.string (B a), .string (B p), .string (B q), .string (B r)]] w fun e w' => e = .returned (.tuple #[.string (B (textV (joinV ⟨a, p, q, r⟩))), .int .i64 (errV 10 (joinV ⟨a, p, q, r⟩))]) ∧ New w w' := by
  have sa := B_size a
  have sp := B_size p
  have sq := B_size q
  have sr := B_size r
  have s47 : (⟨#[47]⟩ : ByteArray).size = 1 := rfl
  have ea := B_empty a
  have er := B_empty r
  have HB0 : Hid (Built (w.alloc (.cells #[.string (B a), .string (B p), .string (B q), .string (B r)] 32)) (w.heap.size + 1) [] ((w.alloc (.cells #[.string (B a), .string (B p), .string (B q), .string (B r)] 32)).alloc (.cells #[.pointer none, .slice none 0 0] 78))) := by
    have h := Built.new (w.alloc (.cells #[.string (B a), .string (B p), .string (B q), .string (B r)] 32))
    rw [show (w.alloc (.cells #[.string (B a), .string (B p), .string (B q), .string (B r)] 32)).heap.size = w.heap.size + 1 by simp] at h
    exact Lib.hid h
  have HP0 := Lib.hid (PartsIn.new w (B a) (B p) (B q) (B r))
  have HM0 := Lib.hid (hm.keep ((New.refl w).alloc (.cells #[.string (B a), .string (B p), .string (B q), .string (B r)] 32)))
  have HN0 := Lib.hid ((New.refl w).alloc (.cells #[.string (B a), .string (B p), .string (B q), .string (B r)] 32))
  go_enter Tryd.func20, Tryd.ntmps20
  rcases Bool.eq_false_or_eq_true a.isEmpty with ha | ha <;> rw [ha] at ea <;> rcases Bool.eq_false_or_eq_true r.isEmpty with hr | hr <;> rw [hr] at er
  · skip
    go_wp2_with fail
    have HB1 := HB0
    rw [B_append]
    refine (write_on HB1.out (by simp; omega)).mono ?_
    rintro e w2 ⟨rfl, h2⟩
    obtain ⟨c0, c1, c2, c3, -, -, -, -⟩ := (HP0.out.keep h2.2).all
    have HB2 := Lib.hid h2
    clear h2
    go_wp2_with fail
    have HB3 := HB2
    refine (read_on HB3.out).mono ?_
    rintro e w4 ⟨rfl, h4⟩
    go_wp2_with fail
    have HLj : Hid (joinL ⟨a, p, q, r⟩ = p ++ q) := by
      have h1 : a = [] := List.isEmpty_iff.1 ha
      have h2 : r = [] := List.isEmpty_iff.1 hr
      have h : joinL ⟨a, p, q, r⟩ = p ++ q := by simp [joinL, h1, h2]
      exact Lib.hid h
    generalize p ++ q = X at *
    have hXl : X.length ≤ 20000 := by rw [← HLj.out]; simp only [joinL]; split <;> split <;> simp <;> omega
    refine (air_Split (B X) w4 (HM0.out.keep h4.2) (by rw [B_size]; omega)).mono ?_
    rintro e w5 ⟨rfl, h5⟩
    rw [bs_B]
    have HB5 := Lib.hid (h4.keep h5)
    have HN5 := Lib.hid ((HN0.out.trans h4.2).trans h5)
    clear h4 h5
    cases hx : splitV X with
    | none =>
      have HJ : Hid (joinV ⟨a, p, q, r⟩ = none) := by
        have h : joinV ⟨a, p, q, r⟩ = none := by unfold joinV; rw [HLj.out, hx]; rfl
        exact Lib.hid h
      clear hx
      simp only [p4V, p4E, partsV]
      obtain ⟨c0, c1, c2, c3, -, -, -, -⟩ := (HP0.out.keep HB5.out.2).all
      go_wp2_with fail
      exact bodyPost_ret (v := .tuple #[.string (B []), .int .i64 10]) (by simp [results, Tryd.results20, go_sem]; rfl) rfl ⟨by rw [HJ.out]; rfl, HN5.out.alloc _⟩
    | some y =>
      obtain ⟨c0, c1, c2, c3, -, -, -, -⟩ := (HP0.out.keep HB5.out.2).all
      have d0 := fun o => cell_alloc c0 o
      have d1 := fun o => cell_alloc c1 o
      have d2 := fun o => cell_alloc c2 o
      have d3 := fun o => cell_alloc c3 o
      rcases cmp4 y ⟨a, p, q, r⟩ with hy | ⟨hy, hn⟩
      · have HJ : Hid (joinV ⟨a, p, q, r⟩ = some X) := by
          have h : joinV ⟨a, p, q, r⟩ = some X := by unfold joinV; rw [HLj.out, hx, hy, if_pos rfl]
          exact Lib.hid h
        clear hx
        subst hy
        simp only [p4V, p4E, partsV]
        go_wp2_with fail
        refine (read_on (HB5.out.keep ((New.refl _).alloc _))).mono ?_
        rintro e w6 ⟨rfl, h6⟩
        have HN6 := Lib.hid (HN0.out.trans h6.2)
        clear h6
        go_wp2_with fail
        exact bodyPost_ret (v := .tuple #[.string (B X), .int .i64 0]) (by simp [results, Tryd.results20, go_sem]) rfl ⟨by rw [HJ.out]; rfl, HN6.out⟩
      · have HJ : Hid (joinV ⟨a, p, q, r⟩ = none) := by
          have h : joinV ⟨a, p, q, r⟩ = none := by
            unfold joinV
            rw [HLj.out, hx, if_neg (by intro h; injection h with h; exact hy h)]
          exact Lib.hid h
        clear hx hy
        simp only [p4V, p4E, partsV]
        rcases hn with n | n | n | n
        all_goals go_wp2_with fail
        all_goals exact bodyPost_ret (v := .tuple #[.string (B []), .int .i64 10]) (by simp [results, Tryd.results20, go_sem]; rfl) rfl ⟨by rw [HJ.out]; rfl, HN5.out.alloc _⟩
  · skip
    go_wp2_with fail
    have HB1 := HB0
    rw [B_append]
    refine (write_on HB1.out (by simp; omega)).mono ?_
    rintro e w2 ⟨rfl, h2⟩
    obtain ⟨c0, c1, c2, c3, -, -, -, -⟩ := (HP0.out.keep h2.2).all
    have HB2 := Lib.hid h2
    clear h2
    go_wp2_with fail
    have e2 : (⟨#[47]⟩ : ByteArray) ++ B r = B (47 :: r) := by show B [47] ++ B r = _; rw [B_append]; rfl
    rw [e2]
    clear e2
    refine (write_on HB2.out (by simp; omega)).mono ?_
    rintro e w3 ⟨rfl, h3⟩
    have HB3 := Lib.hid h3
    clear h3
    go_wp2_with fail
    refine (read_on HB3.out).mono ?_
    rintro e w4 ⟨rfl, h4⟩
    go_wp2_with fail
    have HLj : Hid (joinL ⟨a, p, q, r⟩ = p ++ (q ++ 47 :: r)) := by
      have h1 : a = [] := List.isEmpty_iff.1 ha
      have h2 : r ≠ [] := by intro h; rw [h] at hr; cases hr
      have h : joinL ⟨a, p, q, r⟩ = p ++ (q ++ 47 :: r) := by simp [joinL, h1, h2]
      exact Lib.hid h
    rw [show ([] ++ (p ++ q) ++ 47 :: r : Bytes) = p ++ (q ++ 47 :: r) by simp] at h4
    generalize p ++ (q ++ 47 :: r) = X at *
    have hXl : X.length ≤ 20000 := by rw [← HLj.out]; simp only [joinL]; split <;> split <;> simp <;> omega
    refine (air_Split (B X) w4 (HM0.out.keep h4.2) (by rw [B_size]; omega)).mono ?_
    rintro e w5 ⟨rfl, h5⟩
    rw [bs_B]
    have HB5 := Lib.hid (h4.keep h5)
    have HN5 := Lib.hid ((HN0.out.trans h4.2).trans h5)
    clear h4 h5
    cases hx : splitV X with
    | none =>
      have HJ : Hid (joinV ⟨a, p, q, r⟩ = none) := by
        have h : joinV ⟨a, p, q, r⟩ = none := by unfold joinV; rw [HLj.out, hx]; rfl
        exact Lib.hid h
      clear hx
      simp only [p4V, p4E, partsV]
      obtain ⟨c0, c1, c2, c3, -, -, -, -⟩ := (HP0.out.keep HB5.out.2).all
      go_wp2_with fail
      exact bodyPost_ret (v := .tuple #[.string (B []), .int .i64 10]) (by simp [results, Tryd.results20, go_sem]; rfl) rfl ⟨by rw [HJ.out]; rfl, HN5.out.alloc _⟩
    | some y =>
      obtain ⟨c0, c1, c2, c3, -, -, -, -⟩ := (HP0.out.keep HB5.out.2).all
      have d0 := fun o => cell_alloc c0 o
      have d1 := fun o => cell_alloc c1 o
      have d2 := fun o => cell_alloc c2 o
      have d3 := fun o => cell_alloc c3 o
      rcases cmp4 y ⟨a, p, q, r⟩ with hy | ⟨hy, hn⟩
      · have HJ : Hid (joinV ⟨a, p, q, r⟩ = some X) := by
          have h : joinV ⟨a, p, q, r⟩ = some X := by unfold joinV; rw [HLj.out, hx, hy, if_pos rfl]
          exact Lib.hid h
        clear hx
        subst hy
        simp only [p4V, p4E, partsV]
        go_wp2_with fail
        refine (read_on (HB5.out.keep ((New.refl _).alloc _))).mono ?_
        rintro e w6 ⟨rfl, h6⟩
        have HN6 := Lib.hid (HN0.out.trans h6.2)
        clear h6
        go_wp2_with fail
        exact bodyPost_ret (v := .tuple #[.string (B X), .int .i64 0]) (by simp [results, Tryd.results20, go_sem]) rfl ⟨by rw [HJ.out]; rfl, HN6.out⟩
      · have HJ : Hid (joinV ⟨a, p, q, r⟩ = none) := by
          have h : joinV ⟨a, p, q, r⟩ = none := by
            unfold joinV
            rw [HLj.out, hx, if_neg (by intro h; injection h with h; exact hy h)]
          exact Lib.hid h
        clear hx hy
        simp only [p4V, p4E, partsV]
        rcases hn with n | n | n | n
        all_goals go_wp2_with fail
        all_goals exact bodyPost_ret (v := .tuple #[.string (B []), .int .i64 10]) (by simp [results, Tryd.results20, go_sem]; rfl) rfl ⟨by rw [HJ.out]; rfl, HN5.out.alloc _⟩
  · skip
    go_wp2_with fail
    have e1 : B a ++ ⟨#[47]⟩ = B (a ++ [47]) := by rw [← B_append]; rfl
    rw [e1]
    clear e1
    refine (write_on HB0.out (by simp; omega)).mono ?_
    rintro e w1 ⟨rfl, h1⟩
    obtain ⟨c0, c1, c2, c3, -, -, -, -⟩ := (HP0.out.keep h1.2).all
    have HB1 := Lib.hid h1
    clear h1
    go_wp2_with fail
    rw [B_append]
    refine (write_on HB1.out (by simp; omega)).mono ?_
    rintro e w2 ⟨rfl, h2⟩
    obtain ⟨c0, c1, c2, c3, -, -, -, -⟩ := (HP0.out.keep h2.2).all
    have HB2 := Lib.hid h2
    clear h2
    go_wp2_with fail
    have HB3 := HB2
    refine (read_on HB3.out).mono ?_
    rintro e w4 ⟨rfl, h4⟩
    go_wp2_with fail
    have HLj : Hid (joinL ⟨a, p, q, r⟩ = a ++ 47 :: (p ++ q)) := by
      have h1 : a ≠ [] := by intro h; rw [h] at ha; cases ha
      have h2 : r = [] := List.isEmpty_iff.1 hr
      have h : joinL ⟨a, p, q, r⟩ = a ++ 47 :: (p ++ q) := by simp [joinL, h1, h2]
      exact Lib.hid h
    rw [show ([] ++ (a ++ [47]) ++ (p ++ q) : Bytes) = a ++ 47 :: (p ++ q) by simp] at h4
    generalize a ++ 47 :: (p ++ q) = X at *
    have hXl : X.length ≤ 20000 := by rw [← HLj.out]; simp only [joinL]; split <;> split <;> simp <;> omega
    refine (air_Split (B X) w4 (HM0.out.keep h4.2) (by rw [B_size]; omega)).mono ?_
    rintro e w5 ⟨rfl, h5⟩
    rw [bs_B]
    have HB5 := Lib.hid (h4.keep h5)
    have HN5 := Lib.hid ((HN0.out.trans h4.2).trans h5)
    clear h4 h5
    cases hx : splitV X with
    | none =>
      have HJ : Hid (joinV ⟨a, p, q, r⟩ = none) := by
        have h : joinV ⟨a, p, q, r⟩ = none := by unfold joinV; rw [HLj.out, hx]; rfl
        exact Lib.hid h
      clear hx
      simp only [p4V, p4E, partsV]
      obtain ⟨c0, c1, c2, c3, -, -, -, -⟩ := (HP0.out.keep HB5.out.2).all
      go_wp2_with fail
      exact bodyPost_ret (v := .tuple #[.string (B []), .int .i64 10]) (by simp [results, Tryd.results20, go_sem]; rfl) rfl ⟨by rw [HJ.out]; rfl, HN5.out.alloc _⟩
    | some y =>
      obtain ⟨c0, c1, c2, c3, -, -, -, -⟩ := (HP0.out.keep HB5.out.2).all
      have d0 := fun o => cell_alloc c0 o
      have d1 := fun o => cell_alloc c1 o
      have d2 := fun o => cell_alloc c2 o
      have d3 := fun o => cell_alloc c3 o
      rcases cmp4 y ⟨a, p, q, r⟩ with hy | ⟨hy, hn⟩
      · have HJ : Hid (joinV ⟨a, p, q, r⟩ = some X) := by
          have h : joinV ⟨a, p, q, r⟩ = some X := by unfold joinV; rw [HLj.out, hx, hy, if_pos rfl]
          exact Lib.hid h
        clear hx
        subst hy
        simp only [p4V, p4E, partsV]
        go_wp2_with fail
        refine (read_on (HB5.out.keep ((New.refl _).alloc _))).mono ?_
        rintro e w6 ⟨rfl, h6⟩
        have HN6 := Lib.hid (HN0.out.trans h6.2)
        clear h6
        go_wp2_with fail
        exact bodyPost_ret (v := .tuple #[.string (B X), .int .i64 0]) (by simp [results, Tryd.results20, go_sem]) rfl ⟨by rw [HJ.out]; rfl, HN6.out⟩
      · have HJ : Hid (joinV ⟨a, p, q, r⟩ = none) := by
          have h : joinV ⟨a, p, q, r⟩ = none := by
            unfold joinV
            rw [HLj.out, hx, if_neg (by intro h; injection h with h; exact hy h)]
          exact Lib.hid h
        clear hx hy
        simp only [p4V, p4E, partsV]
        rcases hn with n | n | n | n
        all_goals go_wp2_with fail
        all_goals exact bodyPost_ret (v := .tuple #[.string (B []), .int .i64 10]) (by simp [results, Tryd.results20, go_sem]; rfl) rfl ⟨by rw [HJ.out]; rfl, HN5.out.alloc _⟩
  · skip
    go_wp2_with fail
    have e1 : B a ++ ⟨#[47]⟩ = B (a ++ [47]) := by rw [← B_append]; rfl
    rw [e1]
    clear e1
    refine (write_on HB0.out (by simp; omega)).mono ?_
    rintro e w1 ⟨rfl, h1⟩
    obtain ⟨c0, c1, c2, c3, -, -, -, -⟩ := (HP0.out.keep h1.2).all
    have HB1 := Lib.hid h1
    clear h1
    go_wp2_with fail
    rw [B_append]
    refine (write_on HB1.out (by simp; omega)).mono ?_
    rintro e w2 ⟨rfl, h2⟩
    obtain ⟨c0, c1, c2, c3, -, -, -, -⟩ := (HP0.out.keep h2.2).all
    have HB2 := Lib.hid h2
    clear h2
    go_wp2_with fail
    have e2 : (⟨#[47]⟩ : ByteArray) ++ B r = B (47 :: r) := by show B [47] ++ B r = _; rw [B_append]; rfl
    rw [e2]
    clear e2
    refine (write_on HB2.out (by simp; omega)).mono ?_
    rintro e w3 ⟨rfl, h3⟩
    have HB3 := Lib.hid h3
    clear h3
    go_wp2_with fail
    refine (read_on HB3.out).mono ?_
    rintro e w4 ⟨rfl, h4⟩
    go_wp2_with fail
    have HLj : Hid (joinL ⟨a, p, q, r⟩ = a ++ 47 :: (p ++ (q ++ 47 :: r))) := by
      have h1 : a ≠ [] := by intro h; rw [h] at ha; cases ha
      have h2 : r ≠ [] := by intro h; rw [h] at hr; cases hr
      have h : joinL ⟨a, p, q, r⟩ = a ++ 47 :: (p ++ (q ++ 47 :: r)) := by simp [joinL, h1, h2]
      exact Lib.hid h
    rw [show ([] ++ (a ++ [47]) ++ (p ++ q) ++ 47 :: r : Bytes) = a ++ 47 :: (p ++ (q ++ 47 :: r)) by simp] at h4
    generalize a ++ 47 :: (p ++ (q ++ 47 :: r)) = X at *
    have hXl : X.length ≤ 20000 := by rw [← HLj.out]; simp only [joinL]; split <;> split <;> simp <;> omega
    refine (air_Split (B X) w4 (HM0.out.keep h4.2) (by rw [B_size]; omega)).mono ?_
    rintro e w5 ⟨rfl, h5⟩
    rw [bs_B]
    have HB5 := Lib.hid (h4.keep h5)
    have HN5 := Lib.hid ((HN0.out.trans h4.2).trans h5)
    clear h4 h5
    cases hx : splitV X with
    | none =>
      have HJ : Hid (joinV ⟨a, p, q, r⟩ = none) := by
        have h : joinV ⟨a, p, q, r⟩ = none := by unfold joinV; rw [HLj.out, hx]; rfl
        exact Lib.hid h
      clear hx
      simp only [p4V, p4E, partsV]
      obtain ⟨c0, c1, c2, c3, -, -, -, -⟩ := (HP0.out.keep HB5.out.2).all
      go_wp2_with fail
      exact bodyPost_ret (v := .tuple #[.string (B []), .int .i64 10]) (by simp [results, Tryd.results20, go_sem]; rfl) rfl ⟨by rw [HJ.out]; rfl, HN5.out.alloc _⟩
    | some y =>
      obtain ⟨c0, c1, c2, c3, -, -, -, -⟩ := (HP0.out.keep HB5.out.2).all
      have d0 := fun o => cell_alloc c0 o
      have d1 := fun o => cell_alloc c1 o
      have d2 := fun o => cell_alloc c2 o
      have d3 := fun o => cell_alloc c3 o
      rcases cmp4 y ⟨a, p, q, r⟩ with hy | ⟨hy, hn⟩
      · have HJ : Hid (joinV ⟨a, p, q, r⟩ = some X) := by
          have h : joinV ⟨a, p, q, r⟩ = some X := by unfold joinV; rw [HLj.out, hx, hy, if_pos rfl]
          exact Lib.hid h
        clear hx
        subst hy
        simp only [p4V, p4E, partsV]
        go_wp2_with fail
        refine (read_on (HB5.out.keep ((New.refl _).alloc _))).mono ?_
        rintro e w6 ⟨rfl, h6⟩
        have HN6 := Lib.hid (HN0.out.trans h6.2)
        clear h6
        go_wp2_with fail
        exact bodyPost_ret (v := .tuple #[.string (B X), .int .i64 0]) (by simp [results, Tryd.results20, go_sem]) rfl ⟨by rw [HJ.out]; rfl, HN6.out⟩
      · have HJ : Hid (joinV ⟨a, p, q, r⟩ = none) := by
          have h : joinV ⟨a, p, q, r⟩ = none := by
            unfold joinV
            rw [HLj.out, hx, if_neg (by intro h; injection h with h; exact hy h)]
          exact Lib.hid h
        clear hx hy
        simp only [p4V, p4E, partsV]
        rcases hn with n | n | n | n
        all_goals go_wp2_with fail
        all_goals exact bodyPost_ret (v := .tuple #[.string (B []), .int .i64 10]) (by simp [results, Tryd.results20, go_sem]; rfl) rfl ⟨by rw [HJ.out]; rfl, HN5.out.alloc _⟩
/-- Pieces with c between them. -/
def joinP (c : UInt8) : List Bytes → Bytes
  | [] => []
  | [x] => x
  | x :: y :: t => x ++ c :: joinP c (y :: t)
theorem pieces_ne (c : UInt8) (l : Bytes) : piecesL c l ≠ [] := by
  cases l with
  | nil => simp [piecesL]
  | cons a l =>
    rw [piecesL]
    split
    · simp
    · split <;> simp
theorem join_pieces (c : UInt8) : ∀ l : Bytes, joinP c (piecesL c l) = l
  | [] => rfl
  | a :: l => by
    have ih := join_pieces c l
    have hne := pieces_ne c l
    rw [piecesL]
    by_cases h : a = c
    · rw [if_pos h]
      match hp : piecesL c l, hne with
      | y :: t, _ =>
        rw [hp] at ih
        rw [joinP, ih, h]; rfl
    · rw [if_neg h]
      match hp : piecesL c l, hne with
      | [y], _ =>
        rw [hp] at ih
        simp only [joinP] at ih ⊢
        rw [ih]
      | y :: z :: t, _ =>
        rw [hp] at ih
        simp only [joinP] at ih ⊢
        rw [← ih]; rfl
theorem pieces_free (c : UInt8) : ∀ l : Bytes, ∀ p ∈ piecesL c l, c ∉ p
  | [] => by intro p hp; simp [piecesL] at hp; subst hp; simp
  | a :: l => by
    have ih := pieces_free c l
    intro p hp
    rw [piecesL] at hp
    split at hp
    · rcases List.mem_cons.1 hp with rfl | hp
      · simp
      · exact ih p hp
    · rename_i hac
      split at hp
      · rename_i y t heq
        rcases List.mem_cons.1 hp with rfl | hp
        · intro hc
          rcases List.mem_cons.1 hc with rfl | hc
          · exact hac rfl
          · exact ih y (by rw [heq]; simp) hc
        · exact ih p (by rw [heq]; simp [hp])
      · rename_i heq
        exact absurd heq (pieces_ne c l)
theorem pieces_one (c : UInt8) : ∀ l : Bytes, c ∉ l → piecesL c l = [l]
  | [], _ => rfl
  | a :: l, h => by
    have ih := pieces_one c l (fun hc => h (by simp [hc]))
    rw [piecesL, if_neg (by rintro rfl; exact h (by simp)), ih]
theorem area_ne {l : Bytes} (h : areaB l = true) : l ≠ [] := by
  rintro rfl
  simp [areaB, cntB] at h
theorem stroke_ne {l : Bytes} (h : strokeB l = true) : l ≠ [] := by
  rintro rfl
  simp [strokeB, wordB, figB] at h
/-- What stands in each form: the text is what its parts make, and its base is among its pieces. -/
theorem form_whole {k : Nat} {ws : List Bytes} {q : P4} (h : formV k ws = some q) : joinL q = joinP 47 ws ∧ ∃ x ∈ ws, baseB x = true ∧ q.pre = x.take (cutB x) ∧ q.suf = x.drop (cutB x) := by
  unfold formV at h
  split at h
  all_goals first | (split at h; rotate_left; cases h) | cases h
  · rename_i x hb
    cases h
    exact ⟨by simp [joinL, joinP], x, by simp, hb, rfl, rfl⟩
  · rename_i x y hb
    cases h
    simp only [Bool.and_eq_true] at hb
    have := area_ne hb.1.2
    exact ⟨by simp [joinL, joinP, this], y, by simp, hb.1.1, rfl, rfl⟩
  · rename_i x y hb
    cases h
    simp only [Bool.and_eq_true] at hb
    have := stroke_ne hb.2
    exact ⟨by simp [joinL, joinP, this], x, by simp, hb.1, rfl, rfl⟩
  · rename_i z x y hb
    cases h
    simp only [Bool.and_eq_true] at hb
    have h1 := area_ne hb.1.2
    have h2 := stroke_ne hb.2
    refine ⟨?_, x, by simp, hb.1.1, rfl, rfl⟩
    simp only [joinL, joinP, h1, h2, if_false, List.take_append_drop]
    simp
/-- Split and Join undo each other. -/
theorem join_split {l : Bytes} {q : P4} (h : splitV l = some q) : joinL q = l := by
  obtain ⟨j, _, hj⟩ := splitV_form h
  rw [(form_whole hj).1, join_pieces]
/-- A base is its own base. -/
theorem base_again {l : Bytes} {q : P4} (h : splitV l = some q) : splitV (q.pre ++ q.suf) = some ⟨[], q.pre, q.suf, []⟩ := by
  have hl := splitV_len h
  obtain ⟨j, _, hj⟩ := splitV_form h
  obtain ⟨_, x, hx, hb, hp, hs⟩ := form_whole hj
  have hfree := pieces_free 47 l x hx
  have e : q.pre ++ q.suf = x := by rw [hp, hs, List.take_append_drop]
  have hlen : (q.pre ++ q.suf).length ≤ 8 := by rw [List.length_append]; omega
  rw [e] at hlen ⊢
  unfold splitV
  rw [if_neg (by omega), pieces_one 47 x hfree]
  rw [hp, hs]
  exact tryV_some (f := 3) (by rw [formV, if_pos hb])

end Go.Proofs.YtcaljokcgfkppaaDoor
