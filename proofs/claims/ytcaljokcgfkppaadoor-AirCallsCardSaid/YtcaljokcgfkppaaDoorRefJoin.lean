/-
  Join of the specification: the same as the program's. Condition: parts of at most 10000 bytes together.
-/
import Derived.Test.YtcaljokcgfkppaaDoorRefPrefix
namespace Go.Proofs.YtcaljokcgfkppaaDoor
open Go.RowKit
theorem joinV_long {q : P4} (h : ¬(q.area.length ≤ 16 ∧ q.pre.length ≤ 16 ∧ q.suf.length ≤ 16 ∧ q.stroke.length ≤ 16)) : joinV q = none := by
  unfold joinV
  split
  · rename_i hs
    have := splitV_len hs
    omega
  · rfl
set_option maxHeartbeats 4000000 in
theorem ref_Join (a p q r : Bytes) (w : World) (hl : a.length + p.length + q.length + r.length ≤ 10000) :
    Calls Tryd.prog 21 #[.agg #[.string (B a), .string (B p), .string (B q), .string (B r)]] w fun e w' => e = .returned (.tuple #[.string (B (textV (joinV ⟨a, p, q, r⟩))), .int .i64 (errV 10 (joinV ⟨a, p, q, r⟩))]) ∧ New w w' := by
  have sa := B_size a
  have sp := B_size p
  have sq := B_size q
  have sr := B_size r
  have HN0 := Lib.hid ((New.refl w).alloc (.cells #[.string (B a), .string (B p), .string (B q), .string (B r)] 32))
  by_cases hshort : a.length ≤ 16 ∧ p.length ≤ 16 ∧ q.length ≤ 16 ∧ r.length ≤ 16
  · obtain ⟨g1, g2, g3, g4⟩ := hshort
    have s47 : (⟨#[47]⟩ : ByteArray).size = 1 := rfl
    have ea := B_empty a
    have er := B_empty r
    have HP0 := Lib.hid (PartsIn.new w (B a) (B p) (B q) (B r))
    have z1 : (B p ++ B q).size = p.length + q.length := by rw [B_append, B_size, List.length_append]
    have E47 : Hid ((⟨#[47]⟩ : ByteArray) = B [47]) := Lib.hid rfl
    go_enter Tryd.func21, Tryd.ntmps21
    rcases Bool.eq_false_or_eq_true a.isEmpty with ha | ha <;> rw [ha] at ea <;> rcases Bool.eq_false_or_eq_true r.isEmpty with hr | hr <;> rw [hr] at er
    · have h1 : a = [] := List.isEmpty_iff.1 ha
      have h2 : r = [] := List.isEmpty_iff.1 hr
      have HLj : Hid (joinL ⟨a, p, q, r⟩ = p ++ q) := by
        have h : joinL ⟨a, p, q, r⟩ = p ++ q := by simp [joinL, h1, h2]
        exact Lib.hid h
      clear h1 h2
      have HX : Hid ((B p ++ B q) = B (p ++ q)) := by
        have h : (B p ++ B q) = B (p ++ q) := by rw [B_append]
        exact Lib.hid h
      have hXl : (p ++ q).length ≤ 100000 := by simp; omega
      generalize p ++ q = X at *
      go_wp2_with fail
      rw [HX.out]
      refine (ref_Split (B X) _ (by rw [B_size]; omega)).mono ?_
      rintro e w5 ⟨rfl, h5⟩
      rw [bs_B]
      have HN5 := Lib.hid (HN0.out.trans h5)
      obtain ⟨c0, c1, c2, c3, -, -, -, -⟩ := (HP0.out.keep h5).all
      clear h5
      cases hx : splitV X with
      | none =>
        have HJ : Hid (joinV ⟨a, p, q, r⟩ = none) := by
          have h : joinV ⟨a, p, q, r⟩ = none := by unfold joinV; rw [HLj.out, hx]; rfl
          exact Lib.hid h
        clear hx
        simp only [p4V, p4E, partsV]
        go_wp2_with fail
        exact bodyPost_ret (v := .tuple #[.string (B []), .int .i64 10]) (by simp [results, Tryd.results21, go_sem]; rfl) rfl ⟨by rw [HJ.out]; rfl, HN5.out.alloc _⟩
      | some y =>
        have d0 := fun o => cell_alloc c0 o
        have d1 := fun o => cell_alloc c1 o
        have d2 := fun o => cell_alloc c2 o
        have d3 := fun o => cell_alloc c3 o
        rcases cmp4 y ⟨a, p, q, r⟩ with hy | ⟨hy, hn⟩
        · have HJ : Hid (joinV ⟨a, p, q, r⟩ = some X) := by
            have h : joinV ⟨a, p, q, r⟩ = some X := by unfold joinV; rw [HLj.out, hx, hy, if_pos rfl]
            exact Lib.hid h
          clear hx
          subst hy
          simp only [p4V, p4E, partsV]
          go_wp2_with fail
          exact bodyPost_ret (v := .tuple #[.string (B X), .int .i64 0]) (by simp [results, Tryd.results21, go_sem]) rfl ⟨by rw [HJ.out]; rfl, HN5.out.alloc _⟩
        · have HJ : Hid (joinV ⟨a, p, q, r⟩ = none) := by
            have h : joinV ⟨a, p, q, r⟩ = none := by
              unfold joinV
              rw [HLj.out, hx, if_neg (by intro h; injection h with h; exact hy h)]
            exact Lib.hid h
          clear hx hy
          simp only [p4V, p4E, partsV]
          rcases hn with n | n | n | n
          all_goals go_wp2_with fail
          all_goals exact bodyPost_ret (v := .tuple #[.string (B []), .int .i64 10]) (by simp [results, Tryd.results21, go_sem]; rfl) rfl ⟨by rw [HJ.out]; rfl, HN5.out.alloc _⟩
    · have h1 : a = [] := List.isEmpty_iff.1 ha
      have h2 : r ≠ [] := by simpa using hr
      have HLj : Hid (joinL ⟨a, p, q, r⟩ = (p ++ q) ++ 47 :: r) := by
        have h : joinL ⟨a, p, q, r⟩ = (p ++ q) ++ 47 :: r := by simp [joinL, h1, h2]
        exact Lib.hid h
      clear h1 h2
      have y0 : ((B p ++ B q) ++ ⟨#[47]⟩).size = p.length + q.length + 1 := by rw [ByteArray.size_append]; omega
      have HX : Hid (((B p ++ B q) ++ ⟨#[47]⟩ ++ B r) = B ((p ++ q) ++ 47 :: r)) := by
        have h : ((B p ++ B q) ++ ⟨#[47]⟩ ++ B r) = B ((p ++ q) ++ 47 :: r) := by rw [E47.out, B_append, B_append, B_append]; congr 1; simp [List.append_assoc]
        exact Lib.hid h
      have hXl : ((p ++ q) ++ 47 :: r).length ≤ 100000 := by simp; omega
      generalize (p ++ q) ++ 47 :: r = X at *
      go_wp2_with fail
      rw [HX.out]
      refine (ref_Split (B X) _ (by rw [B_size]; omega)).mono ?_
      rintro e w5 ⟨rfl, h5⟩
      rw [bs_B]
      have HN5 := Lib.hid (HN0.out.trans h5)
      obtain ⟨c0, c1, c2, c3, -, -, -, -⟩ := (HP0.out.keep h5).all
      clear h5
      cases hx : splitV X with
      | none =>
        have HJ : Hid (joinV ⟨a, p, q, r⟩ = none) := by
          have h : joinV ⟨a, p, q, r⟩ = none := by unfold joinV; rw [HLj.out, hx]; rfl
          exact Lib.hid h
        clear hx
        simp only [p4V, p4E, partsV]
        go_wp2_with fail
        exact bodyPost_ret (v := .tuple #[.string (B []), .int .i64 10]) (by simp [results, Tryd.results21, go_sem]; rfl) rfl ⟨by rw [HJ.out]; rfl, HN5.out.alloc _⟩
      | some y =>
        have d0 := fun o => cell_alloc c0 o
        have d1 := fun o => cell_alloc c1 o
        have d2 := fun o => cell_alloc c2 o
        have d3 := fun o => cell_alloc c3 o
        rcases cmp4 y ⟨a, p, q, r⟩ with hy | ⟨hy, hn⟩
        · have HJ : Hid (joinV ⟨a, p, q, r⟩ = some X) := by
            have h : joinV ⟨a, p, q, r⟩ = some X := by unfold joinV; rw [HLj.out, hx, hy, if_pos rfl]
            exact Lib.hid h
          clear hx
          subst hy
          simp only [p4V, p4E, partsV]
          go_wp2_with fail
          exact bodyPost_ret (v := .tuple #[.string (B X), .int .i64 0]) (by simp [results, Tryd.results21, go_sem]) rfl ⟨by rw [HJ.out]; rfl, HN5.out.alloc _⟩
        · have HJ : Hid (joinV ⟨a, p, q, r⟩ = none) := by
            have h : joinV ⟨a, p, q, r⟩ = none := by
              unfold joinV
              rw [HLj.out, hx, if_neg (by intro h; injection h with h; exact hy h)]
            exact Lib.hid h
          clear hx hy
          simp only [p4V, p4E, partsV]
          rcases hn with n | n | n | n
          all_goals go_wp2_with fail
          all_goals exact bodyPost_ret (v := .tuple #[.string (B []), .int .i64 10]) (by simp [results, Tryd.results21, go_sem]; rfl) rfl ⟨by rw [HJ.out]; rfl, HN5.out.alloc _⟩
    · have h1 : a ≠ [] := by simpa using ha
      have h2 : r = [] := List.isEmpty_iff.1 hr
      have HLj : Hid (joinL ⟨a, p, q, r⟩ = a ++ 47 :: (p ++ q)) := by
        have h : joinL ⟨a, p, q, r⟩ = a ++ 47 :: (p ++ q) := by simp [joinL, h1, h2]
        exact Lib.hid h
      clear h1 h2
      have y0 : (B a ++ ⟨#[47]⟩).size = a.length + 1 := by rw [ByteArray.size_append]; omega
      have y1 : (B a ++ ⟨#[47]⟩ ++ (B p ++ B q)).size = a.length + 1 + (p.length + q.length) := by rw [ByteArray.size_append]; omega
      have HX : Hid ((B a ++ ⟨#[47]⟩ ++ (B p ++ B q)) = B (a ++ 47 :: (p ++ q))) := by
        have h : (B a ++ ⟨#[47]⟩ ++ (B p ++ B q)) = B (a ++ 47 :: (p ++ q)) := by rw [E47.out, B_append, B_append, B_append]; congr 1; simp [List.append_assoc]
        exact Lib.hid h
      have hXl : (a ++ 47 :: (p ++ q)).length ≤ 100000 := by simp; omega
      generalize a ++ 47 :: (p ++ q) = X at *
      go_wp2_with fail
      rw [HX.out]
      refine (ref_Split (B X) _ (by rw [B_size]; omega)).mono ?_
      rintro e w5 ⟨rfl, h5⟩
      rw [bs_B]
      have HN5 := Lib.hid (HN0.out.trans h5)
      obtain ⟨c0, c1, c2, c3, -, -, -, -⟩ := (HP0.out.keep h5).all
      clear h5
      cases hx : splitV X with
      | none =>
        have HJ : Hid (joinV ⟨a, p, q, r⟩ = none) := by
          have h : joinV ⟨a, p, q, r⟩ = none := by unfold joinV; rw [HLj.out, hx]; rfl
          exact Lib.hid h
        clear hx
        simp only [p4V, p4E, partsV]
        go_wp2_with fail
        exact bodyPost_ret (v := .tuple #[.string (B []), .int .i64 10]) (by simp [results, Tryd.results21, go_sem]; rfl) rfl ⟨by rw [HJ.out]; rfl, HN5.out.alloc _⟩
      | some y =>
        have d0 := fun o => cell_alloc c0 o
        have d1 := fun o => cell_alloc c1 o
        have d2 := fun o => cell_alloc c2 o
        have d3 := fun o => cell_alloc c3 o
        rcases cmp4 y ⟨a, p, q, r⟩ with hy | ⟨hy, hn⟩
        · have HJ : Hid (joinV ⟨a, p, q, r⟩ = some X) := by
            have h : joinV ⟨a, p, q, r⟩ = some X := by unfold joinV; rw [HLj.out, hx, hy, if_pos rfl]
            exact Lib.hid h
          clear hx
          subst hy
          simp only [p4V, p4E, partsV]
          go_wp2_with fail
          exact bodyPost_ret (v := .tuple #[.string (B X), .int .i64 0]) (by simp [results, Tryd.results21, go_sem]) rfl ⟨by rw [HJ.out]; rfl, HN5.out.alloc _⟩
        · have HJ : Hid (joinV ⟨a, p, q, r⟩ = none) := by
            have h : joinV ⟨a, p, q, r⟩ = none := by
              unfold joinV
              rw [HLj.out, hx, if_neg (by intro h; injection h with h; exact hy h)]
            exact Lib.hid h
          clear hx hy
          simp only [p4V, p4E, partsV]
          rcases hn with n | n | n | n
          all_goals go_wp2_with fail
          all_goals exact bodyPost_ret (v := .tuple #[.string (B []), .int .i64 10]) (by simp [results, Tryd.results21, go_sem]; rfl) rfl ⟨by rw [HJ.out]; rfl, HN5.out.alloc _⟩
    · have h1 : a ≠ [] := by simpa using ha
      have h2 : r ≠ [] := by simpa using hr
      have HLj : Hid (joinL ⟨a, p, q, r⟩ = (a ++ 47 :: (p ++ q)) ++ 47 :: r) := by
        have h : joinL ⟨a, p, q, r⟩ = (a ++ 47 :: (p ++ q)) ++ 47 :: r := by simp [joinL, h1, h2]
        exact Lib.hid h
      clear h1 h2
      have y0 : (B a ++ ⟨#[47]⟩).size = a.length + 1 := by rw [ByteArray.size_append]; omega
      have y1 : (B a ++ ⟨#[47]⟩ ++ (B p ++ B q)).size = a.length + 1 + (p.length + q.length) := by rw [ByteArray.size_append]; omega
      have y2 : ((B a ++ ⟨#[47]⟩ ++ (B p ++ B q)) ++ ⟨#[47]⟩).size = a.length + 1 + (p.length + q.length) + 1 := by rw [ByteArray.size_append]; omega
      have HX : Hid (((B a ++ ⟨#[47]⟩ ++ (B p ++ B q)) ++ ⟨#[47]⟩ ++ B r) = B ((a ++ 47 :: (p ++ q)) ++ 47 :: r)) := by
        have h : ((B a ++ ⟨#[47]⟩ ++ (B p ++ B q)) ++ ⟨#[47]⟩ ++ B r) = B ((a ++ 47 :: (p ++ q)) ++ 47 :: r) := by rw [E47.out, B_append, B_append, B_append, B_append, B_append]; congr 1; simp [List.append_assoc]
        exact Lib.hid h
      have hXl : ((a ++ 47 :: (p ++ q)) ++ 47 :: r).length ≤ 100000 := by simp; omega
      generalize (a ++ 47 :: (p ++ q)) ++ 47 :: r = X at *
      go_wp2_with fail
      rw [HX.out]
      refine (ref_Split (B X) _ (by rw [B_size]; omega)).mono ?_
      rintro e w5 ⟨rfl, h5⟩
      rw [bs_B]
      have HN5 := Lib.hid (HN0.out.trans h5)
      obtain ⟨c0, c1, c2, c3, -, -, -, -⟩ := (HP0.out.keep h5).all
      clear h5
      cases hx : splitV X with
      | none =>
        have HJ : Hid (joinV ⟨a, p, q, r⟩ = none) := by
          have h : joinV ⟨a, p, q, r⟩ = none := by unfold joinV; rw [HLj.out, hx]; rfl
          exact Lib.hid h
        clear hx
        simp only [p4V, p4E, partsV]
        go_wp2_with fail
        exact bodyPost_ret (v := .tuple #[.string (B []), .int .i64 10]) (by simp [results, Tryd.results21, go_sem]; rfl) rfl ⟨by rw [HJ.out]; rfl, HN5.out.alloc _⟩
      | some y =>
        have d0 := fun o => cell_alloc c0 o
        have d1 := fun o => cell_alloc c1 o
        have d2 := fun o => cell_alloc c2 o
        have d3 := fun o => cell_alloc c3 o
        rcases cmp4 y ⟨a, p, q, r⟩ with hy | ⟨hy, hn⟩
        · have HJ : Hid (joinV ⟨a, p, q, r⟩ = some X) := by
            have h : joinV ⟨a, p, q, r⟩ = some X := by unfold joinV; rw [HLj.out, hx, hy, if_pos rfl]
            exact Lib.hid h
          clear hx
          subst hy
          simp only [p4V, p4E, partsV]
          go_wp2_with fail
          exact bodyPost_ret (v := .tuple #[.string (B X), .int .i64 0]) (by simp [results, Tryd.results21, go_sem]) rfl ⟨by rw [HJ.out]; rfl, HN5.out.alloc _⟩
        · have HJ : Hid (joinV ⟨a, p, q, r⟩ = none) := by
            have h : joinV ⟨a, p, q, r⟩ = none := by
              unfold joinV
              rw [HLj.out, hx, if_neg (by intro h; injection h with h; exact hy h)]
            exact Lib.hid h
          clear hx hy
          simp only [p4V, p4E, partsV]
          rcases hn with n | n | n | n
          all_goals go_wp2_with fail
          all_goals exact bodyPost_ret (v := .tuple #[.string (B []), .int .i64 10]) (by simp [results, Tryd.results21, go_sem]; rfl) rfl ⟨by rw [HJ.out]; rfl, HN5.out.alloc _⟩
  · have HJ := Lib.hid (joinV_long (q := ⟨a, p, q, r⟩) hshort)
    have hcase : 16 < a.length ∨ (a.length ≤ 16 ∧ 16 < p.length) ∨ (a.length ≤ 16 ∧ p.length ≤ 16 ∧ 16 < q.length) ∨ (a.length ≤ 16 ∧ p.length ≤ 16 ∧ q.length ≤ 16 ∧ 16 < r.length) := by omega
    clear hshort
    go_enter Tryd.func21, Tryd.ntmps21
    rcases hcase with h | ⟨h1, h⟩ | ⟨h1, h2, h⟩ | ⟨h1, h2, h3, h⟩
    all_goals go_wp2_with fail
    all_goals exact bodyPost_ret (v := .tuple #[.string (B []), .int .i64 10]) (by simp [results, Tryd.results21, go_sem]; rfl) rfl ⟨by rw [HJ.out]; rfl, HN0.out⟩

end Go.Proofs.YtcaljokcgfkppaaDoor
