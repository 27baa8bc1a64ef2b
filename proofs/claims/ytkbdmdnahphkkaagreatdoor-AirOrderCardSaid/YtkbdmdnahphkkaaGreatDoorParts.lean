/-
  Split of the program: the parts of a call sign, or none, for every text in a world that has the library's variable MaxLen (the bound on a text's length is what a text in memory keeps).
-/
import Derived.Test.YtkbdmdnahphkkaaGreatDoorSplit
import Derived.Laws.EntriesVeiled
namespace Go.Proofs.YtkbdmdnahphkkaaGreatDoor
open Go.RowKit
theorem air_forms (w : World) :
    Calls Tryz.prog 50 #[] w fun e w' => e = .returned (.slice (some ⟨w.heap.size, 0, none⟩) 4 4) ∧ w' = w.alloc (.cells #[.int .i64 1, .func (.func 73) #[] #[], .int .i64 2, .func (.func 75) #[] #[], .int .i64 2, .func (.func 77) #[] #[], .int .i64 3, .func (.func 79) #[] #[]] 92) := by
  go_enter Tryz.func50, Tryz.ntmps50
  go_wp2
  go_ret
  exact ⟨rfl, rfl⟩

/-- What the walks ask of the world: the library's variable MaxLen holds some int. -/
def HasMax (w : World) : Prop := ∃ m : Int, w.cell? ⟨0, 0, none⟩ = some (.int .i64 m)
theorem HasMax.keep {w w' : World} (h : HasMax w) (k : New w w') : HasMax w' := by
  obtain ⟨m, hm⟩ := h
  exact ⟨m, k.cellOf hm⟩
theorem strs_cell {w : World} {g : Nat} {ws : List ByteArray} (h : w.heap[g]? = some (.cells (ws.map Value.string).toArray 9 (0, 0))) {i : Nat} {x : ByteArray} (hi : ws[i]? = some x) : w.cell? ⟨g, i, none⟩ = some (.string x) := by
  rw [cell_of_row w g i _ _ _ h]
  simp [hi]
/-- One form's answer, whichever form it is. -/
def FormSays (k : Nat) (ws : List Bytes) (w : World) (e : Ending) (w' : World) : Prop :=
  ∃ (q : P4) (ok : Bool), e = .returned (.tuple #[partsV q.area q.pre q.suf q.stroke, .bool ok]) ∧ (ok = true → formV k ws = some q) ∧ (ok = false → formV k ws = none) ∧ New w w'
theorem form_says {k : Nat} {ws : List Bytes} {w : World} {q : P4} {ok : Bool} {e : Ending} {w' : World} (h : e = .returned (.tuple #[partsV q.area q.pre q.suf q.stroke, .bool ok]) ∧ New w w') (hf : formV k ws = if ok then some q else none) : FormSays k ws w e w' :=
  ⟨q, ok, h.1, fun h' => by rw [hf, h']; rfl, fun h' => by rw [hf, h']; rfl, h.2⟩
theorem form_call (k : Nat) (f n c b : Nat) (ws : List ByteArray) (w : World) (hk : (k = 0 ∧ f = 73 ∧ n = 1) ∨ (k = 1 ∧ f = 75 ∧ n = 2) ∨ (k = 2 ∧ f = 77 ∧ n = 2) ∨ (k = 3 ∧ f = 79 ∧ n = 3)) (hl : ws.length = n)
    (hc : ∀ i x, ws[i]? = some x → w.cell? ⟨b, i, none⟩ = some (.string x)) (hz : ∀ x ∈ ws, x.size ≤ 9223372036854775807) :
    Calls Tryz.prog f #[.slice (some ⟨b, 0, none⟩) n c] w (FormSays k (ws.map bs) w) := by
  rcases hk with ⟨rfl, rfl, rfl⟩ | ⟨rfl, rfl, rfl⟩ | ⟨rfl, rfl, rfl⟩ | ⟨rfl, rfl, rfl⟩
  · match ws, hl with
    | [x], _ =>
      exact (forms1 b c x w (hc 0 x rfl) (hz x (by simp))).mono fun _ _ h => form_says (q := ⟨[], _, _, []⟩) h rfl
  · match ws, hl with
    | [x, y], _ =>
      exact (forms2 b c x y w (hc 0 x rfl) (hc 1 y rfl) (hz x (by simp)) (hz y (by simp))).mono fun _ _ h => form_says (q := ⟨_, _, _, []⟩) h rfl
  · match ws, hl with
    | [x, y], _ =>
      exact (forms3 b c x y w (hc 0 x rfl) (hc 1 y rfl) (hz x (by simp)) (hz y (by simp))).mono fun _ _ h => form_says (q := ⟨[], _, _, _⟩) h rfl
  · match ws, hl with
    | [z, x, y], _ =>
      exact (forms4 b c z x y w (hc 0 z rfl) (hc 1 x rfl) (hc 2 y rfl) (hz z (by simp)) (hz x (by simp)) (hz y (by simp))).mono fun _ _ h => form_says (q := ⟨_, _, _, _⟩) h rfl
set_option maxHeartbeats 2000000 in
theorem air_Split (s : ByteArray) (w : World) (hm : HasMax w) (hs : s.size ≤ 9223372036854775807) :
    Calls Tryz.prog 22 #[.string s] w fun e w' => e = .returned (.tuple #[p4V (splitV (bs s)), .int .i64 (p4E (splitV (bs s)))]) ∧ New w w' := by
  have hz := bs_size s
  by_cases h16 : 16 < s.size
  · have HS : Hid (splitV (bs s) = none) := by unfold splitV; rw [if_pos (by omega)]; rfl
    go_enter Tryz.func22, Tryz.ntmps22
    go_wp2
    refine bodyPost_ret (v := .tuple #[partsV [] [] [] [], .int .i64 10]) (by simp [results, Tryz.results22, go_sem, partsV]; rfl) rfl ⟨by rw [HS.out]; rfl, ?_⟩
    exact (New.refl w).alloc _
  · have HS : Hid (splitV (bs s) = tryV (piecesL 47 (bs s)) 4 0) := by unfold splitV; rw [if_neg (by omega)]; rfl
    have HW := Lib.hid (splitB_pieces s 47)
    have HC : Hid ((Lib.splitB ⟨#[47]⟩ 0 (Lib.countB s ⟨#[47]⟩) s).length = Lib.countB s ⟨#[47]⟩ + 1) := Lib.splitB_all ⟨#[47]⟩ (Nat.le_refl 1) 0 _ s rfl
    go_enter Tryz.func22, Tryz.ntmps22
    go_wp2_with fail
    obtain ⟨m, hm⟩ := hm.keep ((New.refl w).alloc (.cells #[.string ⟨#[]⟩, .string ⟨#[]⟩, .string ⟨#[]⟩, .string ⟨#[]⟩] 45))
    refine (Tryz.strings_Split s ⟨#[47]⟩ m _ (by omega) hm (Nat.le_refl 1)).mono ?_
    rintro e w1 ⟨rfl, rfl⟩
    generalize Lib.splitB ⟨#[47]⟩ 0 (Lib.countB s ⟨#[47]⟩) s = ws at *
    generalize Lib.countB s ⟨#[47]⟩ = cnt at *
    go_wp2_with fail
    refine (air_forms _).mono ?_
    rintro e w1 ⟨rfl, rfl⟩
    go_wp2_with fail
    have hn3 : New w (((w.alloc (.cells #[.string ⟨#[]⟩, .string ⟨#[]⟩, .string ⟨#[]⟩, .string ⟨#[]⟩] 45)).alloc (.cells (ws.map Value.string).toArray 9)).alloc (.cells #[.int .i64 1, .func (.func 73) #[] #[], .int .i64 2, .func (.func 75) #[] #[], .int .i64 2, .func (.func 77) #[] #[], .int .i64 3, .func (.func 79) #[] #[]] 92)) := (((New.refl w).alloc _).alloc _).alloc _
    have hR : PartsIn (((w.alloc (.cells #[.string ⟨#[]⟩, .string ⟨#[]⟩, .string ⟨#[]⟩, .string ⟨#[]⟩] 45)).alloc (.cells (ws.map Value.string).toArray 9)).alloc (.cells #[.int .i64 1, .func (.func 73) #[] #[], .int .i64 2, .func (.func 75) #[] #[], .int .i64 2, .func (.func 77) #[] #[], .int .i64 3, .func (.func 79) #[] #[]] 92)) w.heap.size ⟨#[]⟩ ⟨#[]⟩ ⟨#[]⟩ ⟨#[]⟩ := ((PartsIn.new w _ _ _ _).keep ((New.refl _).alloc _)).keep ((New.refl _).alloc _)
    have hWd : (((w.alloc (.cells #[.string ⟨#[]⟩, .string ⟨#[]⟩, .string ⟨#[]⟩, .string ⟨#[]⟩] 45)).alloc (.cells (ws.map Value.string).toArray 9)).alloc (.cells #[.int .i64 1, .func (.func 73) #[] #[], .int .i64 2, .func (.func 75) #[] #[], .int .i64 2, .func (.func 77) #[] #[], .int .i64 3, .func (.func 79) #[] #[]] 92)).heap[w.heap.size + 1]? = some (.cells (ws.map Value.string).toArray 9 (0, 0)) := by
      rw [Below.heap_alloc _ _ _ (by simp)]
      have := heap_alloc_new (w.alloc (.cells #[.string ⟨#[]⟩, .string ⟨#[]⟩, .string ⟨#[]⟩, .string ⟨#[]⟩] 45)) (.cells (ws.map Value.string).toArray 9)
      simpa using this
    have hFo : (((w.alloc (.cells #[.string ⟨#[]⟩, .string ⟨#[]⟩, .string ⟨#[]⟩, .string ⟨#[]⟩] 45)).alloc (.cells (ws.map Value.string).toArray 9)).alloc (.cells #[.int .i64 1, .func (.func 73) #[] #[], .int .i64 2, .func (.func 75) #[] #[], .int .i64 2, .func (.func 77) #[] #[], .int .i64 3, .func (.func 79) #[] #[]] 92)).heap[w.heap.size + 1 + 1]? = some (.cells #[.int .i64 1, .func (.func 73) #[] #[], .int .i64 2, .func (.func 75) #[] #[], .int .i64 2, .func (.func 77) #[] #[], .int .i64 3, .func (.func 79) #[] #[]] 92 (0, 0)) := by
      have := heap_alloc_new ((w.alloc (.cells #[.string ⟨#[]⟩, .string ⟨#[]⟩, .string ⟨#[]⟩, .string ⟨#[]⟩] 45)).alloc (.cells (ws.map Value.string).toArray 9)) (.cells #[.int .i64 1, .func (.func 73) #[] #[], .int .i64 2, .func (.func 75) #[] #[], .int .i64 2, .func (.func 77) #[] #[], .int .i64 3, .func (.func 79) #[] #[]] 92)
      simpa using this
    have hzw : ∀ x ∈ ws, x.size ≤ 9223372036854775807 := by
      intro x hx
      have h1 := (pieces_len 47 (bs s)).2.2 (bs x) (by rw [← HW.out]; exact List.mem_map_of_mem (f := bs) hx)
      rw [bs_size] at h1; omega
    have HR := Lib.hid hR
    have HWd := Lib.hid hWd
    have HFo := Lib.hid hFo
    have HN3 := Lib.hid hn3
    clear hR hWd hFo hn3 hm
    generalize ((w.alloc (.cells #[.string ⟨#[]⟩, .string ⟨#[]⟩, .string ⟨#[]⟩, .string ⟨#[]⟩] 45)).alloc (.cells (ws.map Value.string).toArray 9)).alloc (.cells #[.int .i64 1, .func (.func 73) #[] #[], .int .i64 2, .func (.func 75) #[] #[], .int .i64 2, .func (.func 77) #[] #[], .int .i64 3, .func (.func 79) #[] #[]] 92) = W at *
    go_loopw [17] (fun i wr => ∃ k : Nat, k ≤ 4 ∧ i = .int .i64 k ∧ tryV (ws.map bs) 4 0 = tryV (ws.map bs) (4 - k) k ∧ New W wr) (fun i _ => 4 - (intOf i).toNat)
    case atStart => exact ⟨0, by omega, rfl, rfl, New.refl _⟩
    case round =>
      obtain ⟨k, hk, rfl, htry, hnew⟩ := hrel
      have HT := Lib.hid htry
      clear htry
      have hk5 : k = 0 ∨ k = 1 ∨ k = 2 ∨ k = 3 ∨ k = 4 := by omega
      rcases hk5 with rfl | rfl | rfl | rfl | rfl
      · have f0 : wr.cell? ⟨w.heap.size + 1 + 1, 0, none⟩ = some (.int .i64 1) := hnew.cellOf (by rw [cell_of_row _ _ 0 _ _ _ HFo.out]; rfl)
        have f1 : wr.cell? ⟨w.heap.size + 1 + 1, 1, none⟩ = some (.func (.func 73) #[] #[]) := hnew.cellOf (by rw [cell_of_row _ _ 1 _ _ _ HFo.out]; rfl)
        by_cases hl : cnt + 1 = 1
        · obtain rfl : cnt = 0 := by omega
          go_wp2_with fail
          refine (form_call 0 73 1 1 (w.heap.size + 1) ws _ (by simp) (by rw [HC.out]) ?_ ?_).mono ?_
          · intro i x hi
            exact (hnew.alloc _).cellOf (strs_cell HWd.out hi)
          · exact hzw
          · rintro e w2 ⟨q, ok, rfl, hok, hno, hn2⟩
            cases ok with
            | true =>
              have hq := hok rfl
              simp only [partsV]
              have P2 : ∀ o, PartsIn (w2.alloc o) w.heap.size ⟨#[]⟩ ⟨#[]⟩ ⟨#[]⟩ ⟨#[]⟩ := fun o => HR.out.keep (((hnew.alloc _).trans hn2).alloc o)
              have c0 := fun o => (P2 o).all.1
              have c1 := fun o => (P2 o).all.2.1
              have c2 := fun o => (P2 o).all.2.2.1
              have c3 := fun o => (P2 o).all.2.2.2.1
              have g0 := fun o => (P2 o).all.2.2.2.2.1
              have g1 := fun o => (P2 o).all.2.2.2.2.2.1
              have g2 := fun o => (P2 o).all.2.2.2.2.2.2.1
              have g3 := fun o => (P2 o).all.2.2.2.2.2.2.2
              have HP2 := Lib.hid P2
              have HE : Hid (splitV (bs s) = some q) := by
                have h1 : tryV (ws.map bs) (4 - 0) 0 = some q := tryV_some (f := 3) hq
                rw [HS.out, ← HW.out, h1]; trivial
              clear P2
              go_wp2_with fail
              clear c0 c1 c2 c3 g0 g1 g2 g3
              obtain ⟨n3, c0, c1, c2, c3⟩ := after_store (v0 := .string (B q.area)) (v1 := .string (B q.pre)) (v2 := .string (B q.suf)) (v3 := .string (B q.stroke)) ((HN3.out.trans ((hnew.alloc _).trans hn2)).alloc _) (Nat.le_refl _) (HP2.out (.cells #[.string (B q.area), .string (B q.pre), .string (B q.suf), .string (B q.stroke)] 45)) (Below.refl _ _)
              simp only [wSet] at n3 c0 c1 c2 c3
              refine bodyPost_ret (v := .tuple #[partsV q.area q.pre q.suf q.stroke, .int .i64 0]) (by simp [results, Tryz.results22, go_sem, partsV, c0, c1, c2, c3]) rfl ⟨by rw [HE.out]; rfl, n3⟩
            | false =>
              have hq := hno rfl
              simp only [partsV]
              go_wp2_with fail
              refine ⟨⟨_, _, _, _, _, ⟨1, by omega, rfl, ?_, ((hnew.alloc _).trans hn2).alloc _⟩, rfl, rfl, rfl, rfl, rfl⟩, by simp [intOf]⟩
              skip; exact tryV_none (f := 3) hq
        · have hq : formV 0 (ws.map bs) = none := by
            rcases h : formV 0 (ws.map bs) with _ | p
            · rfl
            · have h1 := (formV_len h).1 rfl
              rw [List.length_map] at h1
              have := HC.out
              omega
          go_wp2_with fail
          refine ⟨⟨1, by omega, rfl, ?_, hnew.alloc _⟩, by simp [intOf]⟩
          skip; exact tryV_none (f := 3) hq
      · have f0 : wr.cell? ⟨w.heap.size + 1 + 1, 2, none⟩ = some (.int .i64 2) := hnew.cellOf (by rw [cell_of_row _ _ 2 _ _ _ HFo.out]; rfl)
        have f1 : wr.cell? ⟨w.heap.size + 1 + 1, 3, none⟩ = some (.func (.func 75) #[] #[]) := hnew.cellOf (by rw [cell_of_row _ _ 3 _ _ _ HFo.out]; rfl)
        by_cases hl : cnt + 1 = 2
        · obtain rfl : cnt = 1 := by omega
          go_wp2_with fail
          refine (form_call 1 75 2 2 (w.heap.size + 1) ws _ (by simp) (by rw [HC.out]) ?_ ?_).mono ?_
          · intro i x hi
            exact (hnew.alloc _).cellOf (strs_cell HWd.out hi)
          · exact hzw
          · rintro e w2 ⟨q, ok, rfl, hok, hno, hn2⟩
            cases ok with
            | true =>
              have hq := hok rfl
              simp only [partsV]
              have P2 : ∀ o, PartsIn (w2.alloc o) w.heap.size ⟨#[]⟩ ⟨#[]⟩ ⟨#[]⟩ ⟨#[]⟩ := fun o => HR.out.keep (((hnew.alloc _).trans hn2).alloc o)
              have c0 := fun o => (P2 o).all.1
              have c1 := fun o => (P2 o).all.2.1
              have c2 := fun o => (P2 o).all.2.2.1
              have c3 := fun o => (P2 o).all.2.2.2.1
              have g0 := fun o => (P2 o).all.2.2.2.2.1
              have g1 := fun o => (P2 o).all.2.2.2.2.2.1
              have g2 := fun o => (P2 o).all.2.2.2.2.2.2.1
              have g3 := fun o => (P2 o).all.2.2.2.2.2.2.2
              have HP2 := Lib.hid P2
              have HE : Hid (splitV (bs s) = some q) := by
                have h1 : tryV (ws.map bs) (4 - 1) 1 = some q := tryV_some (f := 2) hq
                rw [HS.out, ← HW.out, HT.out, h1]; trivial
              clear P2
              go_wp2_with fail
              clear c0 c1 c2 c3 g0 g1 g2 g3
              obtain ⟨n3, c0, c1, c2, c3⟩ := after_store (v0 := .string (B q.area)) (v1 := .string (B q.pre)) (v2 := .string (B q.suf)) (v3 := .string (B q.stroke)) ((HN3.out.trans ((hnew.alloc _).trans hn2)).alloc _) (Nat.le_refl _) (HP2.out (.cells #[.string (B q.area), .string (B q.pre), .string (B q.suf), .string (B q.stroke)] 45)) (Below.refl _ _)
              simp only [wSet] at n3 c0 c1 c2 c3
              refine bodyPost_ret (v := .tuple #[partsV q.area q.pre q.suf q.stroke, .int .i64 0]) (by simp [results, Tryz.results22, go_sem, partsV, c0, c1, c2, c3]) rfl ⟨by rw [HE.out]; rfl, n3⟩
            | false =>
              have hq := hno rfl
              simp only [partsV]
              go_wp2_with fail
              refine ⟨⟨_, _, _, _, _, ⟨2, by omega, rfl, ?_, ((hnew.alloc _).trans hn2).alloc _⟩, rfl, rfl, rfl, rfl, rfl⟩, by simp [intOf]⟩
              rw [HT.out]; exact tryV_none (f := 2) hq
        · have hq : formV 1 (ws.map bs) = none := by
            rcases h : formV 1 (ws.map bs) with _ | p
            · rfl
            · have h1 := (formV_len h).2.1 rfl
              rw [List.length_map] at h1
              have := HC.out
              omega
          go_wp2_with fail
          refine ⟨⟨2, by omega, rfl, ?_, hnew.alloc _⟩, by simp [intOf]⟩
          rw [HT.out]; exact tryV_none (f := 2) hq
      · have f0 : wr.cell? ⟨w.heap.size + 1 + 1, 4, none⟩ = some (.int .i64 2) := hnew.cellOf (by rw [cell_of_row _ _ 4 _ _ _ HFo.out]; rfl)
        have f1 : wr.cell? ⟨w.heap.size + 1 + 1, 5, none⟩ = some (.func (.func 77) #[] #[]) := hnew.cellOf (by rw [cell_of_row _ _ 5 _ _ _ HFo.out]; rfl)
        by_cases hl : cnt + 1 = 2
        · obtain rfl : cnt = 1 := by omega
          go_wp2_with fail
          refine (form_call 2 77 2 2 (w.heap.size + 1) ws _ (by simp) (by rw [HC.out]) ?_ ?_).mono ?_
          · intro i x hi
            exact (hnew.alloc _).cellOf (strs_cell HWd.out hi)
          · exact hzw
          · rintro e w2 ⟨q, ok, rfl, hok, hno, hn2⟩
            cases ok with
            | true =>
              have hq := hok rfl
              simp only [partsV]
              have P2 : ∀ o, PartsIn (w2.alloc o) w.heap.size ⟨#[]⟩ ⟨#[]⟩ ⟨#[]⟩ ⟨#[]⟩ := fun o => HR.out.keep (((hnew.alloc _).trans hn2).alloc o)
              have c0 := fun o => (P2 o).all.1
              have c1 := fun o => (P2 o).all.2.1
              have c2 := fun o => (P2 o).all.2.2.1
              have c3 := fun o => (P2 o).all.2.2.2.1
              have g0 := fun o => (P2 o).all.2.2.2.2.1
              have g1 := fun o => (P2 o).all.2.2.2.2.2.1
              have g2 := fun o => (P2 o).all.2.2.2.2.2.2.1
              have g3 := fun o => (P2 o).all.2.2.2.2.2.2.2
              have HP2 := Lib.hid P2
              have HE : Hid (splitV (bs s) = some q) := by
                have h1 : tryV (ws.map bs) (4 - 2) 2 = some q := tryV_some (f := 1) hq
                rw [HS.out, ← HW.out, HT.out, h1]; trivial
              clear P2
              go_wp2_with fail
              clear c0 c1 c2 c3 g0 g1 g2 g3
              obtain ⟨n3, c0, c1, c2, c3⟩ := after_store (v0 := .string (B q.area)) (v1 := .string (B q.pre)) (v2 := .string (B q.suf)) (v3 := .string (B q.stroke)) ((HN3.out.trans ((hnew.alloc _).trans hn2)).alloc _) (Nat.le_refl _) (HP2.out (.cells #[.string (B q.area), .string (B q.pre), .string (B q.suf), .string (B q.stroke)] 45)) (Below.refl _ _)
              simp only [wSet] at n3 c0 c1 c2 c3
              refine bodyPost_ret (v := .tuple #[partsV q.area q.pre q.suf q.stroke, .int .i64 0]) (by simp [results, Tryz.results22, go_sem, partsV, c0, c1, c2, c3]) rfl ⟨by rw [HE.out]; rfl, n3⟩
            | false =>
              have hq := hno rfl
              simp only [partsV]
              go_wp2_with fail
              refine ⟨⟨_, _, _, _, _, ⟨3, by omega, rfl, ?_, ((hnew.alloc _).trans hn2).alloc _⟩, rfl, rfl, rfl, rfl, rfl⟩, by simp [intOf]⟩
              rw [HT.out]; exact tryV_none (f := 1) hq
        · have hq : formV 2 (ws.map bs) = none := by
            rcases h : formV 2 (ws.map bs) with _ | p
            · rfl
            · have h1 := (formV_len h).2.2.1 rfl
              rw [List.length_map] at h1
              have := HC.out
              omega
          go_wp2_with fail
          refine ⟨⟨3, by omega, rfl, ?_, hnew.alloc _⟩, by simp [intOf]⟩
          rw [HT.out]; exact tryV_none (f := 1) hq
      · have f0 : wr.cell? ⟨w.heap.size + 1 + 1, 6, none⟩ = some (.int .i64 3) := hnew.cellOf (by rw [cell_of_row _ _ 6 _ _ _ HFo.out]; rfl)
        have f1 : wr.cell? ⟨w.heap.size + 1 + 1, 7, none⟩ = some (.func (.func 79) #[] #[]) := hnew.cellOf (by rw [cell_of_row _ _ 7 _ _ _ HFo.out]; rfl)
        by_cases hl : cnt + 1 = 3
        · obtain rfl : cnt = 2 := by omega
          go_wp2_with fail
          refine (form_call 3 79 3 3 (w.heap.size + 1) ws _ (by simp) (by rw [HC.out]) ?_ ?_).mono ?_
          · intro i x hi
            exact (hnew.alloc _).cellOf (strs_cell HWd.out hi)
          · exact hzw
          · rintro e w2 ⟨q, ok, rfl, hok, hno, hn2⟩
            cases ok with
            | true =>
              have hq := hok rfl
              simp only [partsV]
              have P2 : ∀ o, PartsIn (w2.alloc o) w.heap.size ⟨#[]⟩ ⟨#[]⟩ ⟨#[]⟩ ⟨#[]⟩ := fun o => HR.out.keep (((hnew.alloc _).trans hn2).alloc o)
              have c0 := fun o => (P2 o).all.1
              have c1 := fun o => (P2 o).all.2.1
              have c2 := fun o => (P2 o).all.2.2.1
              have c3 := fun o => (P2 o).all.2.2.2.1
              have g0 := fun o => (P2 o).all.2.2.2.2.1
              have g1 := fun o => (P2 o).all.2.2.2.2.2.1
              have g2 := fun o => (P2 o).all.2.2.2.2.2.2.1
              have g3 := fun o => (P2 o).all.2.2.2.2.2.2.2
              have HP2 := Lib.hid P2
              have HE : Hid (splitV (bs s) = some q) := by
                have h1 : tryV (ws.map bs) (4 - 3) 3 = some q := tryV_some (f := 0) hq
                rw [HS.out, ← HW.out, HT.out, h1]; trivial
              clear P2
              go_wp2_with fail
              clear c0 c1 c2 c3 g0 g1 g2 g3
              obtain ⟨n3, c0, c1, c2, c3⟩ := after_store (v0 := .string (B q.area)) (v1 := .string (B q.pre)) (v2 := .string (B q.suf)) (v3 := .string (B q.stroke)) ((HN3.out.trans ((hnew.alloc _).trans hn2)).alloc _) (Nat.le_refl _) (HP2.out (.cells #[.string (B q.area), .string (B q.pre), .string (B q.suf), .string (B q.stroke)] 45)) (Below.refl _ _)
              simp only [wSet] at n3 c0 c1 c2 c3
              refine bodyPost_ret (v := .tuple #[partsV q.area q.pre q.suf q.stroke, .int .i64 0]) (by simp [results, Tryz.results22, go_sem, partsV, c0, c1, c2, c3]) rfl ⟨by rw [HE.out]; rfl, n3⟩
            | false =>
              have hq := hno rfl
              simp only [partsV]
              go_wp2_with fail
              refine ⟨⟨_, _, _, _, _, ⟨4, by omega, rfl, ?_, ((hnew.alloc _).trans hn2).alloc _⟩, rfl, rfl, rfl, rfl, rfl⟩, by simp [intOf]⟩
              rw [HT.out]; exact tryV_none (f := 0) hq
        · have hq : formV 3 (ws.map bs) = none := by
            rcases h : formV 3 (ws.map bs) with _ | p
            · rfl
            · have h1 := (formV_len h).2.2.2 rfl
              rw [List.length_map] at h1
              have := HC.out
              omega
          go_wp2_with fail
          refine ⟨⟨4, by omega, rfl, ?_, hnew.alloc _⟩, by simp [intOf]⟩
          rw [HT.out]; exact tryV_none (f := 0) hq
      · have HE : Hid (splitV (bs s) = none) := by rw [HS.out, ← HW.out, HT.out]; rfl
        have P2 := HR.out.keep hnew
        have HP2 := Lib.hid P2
        obtain ⟨c0, c1, c2, c3, g0, g1, g2, g3⟩ := P2.all
        clear P2
        go_wp2_with fail
        clear c0 c1 c2 c3 g0 g1 g2 g3
        obtain ⟨n3, c0, c1, c2, c3⟩ := after_store (v0 := .string ⟨#[]⟩) (v1 := .string ⟨#[]⟩) (v2 := .string ⟨#[]⟩) (v3 := .string ⟨#[]⟩) (HN3.out.trans hnew) (Nat.le_refl _) HP2.out (Below.refl _ _)
        simp only [wSet] at n3 c0 c1 c2 c3
        refine bodyPost_ret (v := .tuple #[partsV [] [] [] [], .int .i64 10]) (by simp [results, Tryz.results22, go_sem, partsV, c0, c1, c2, c3]; rfl) rfl ⟨by rw [HE.out]; rfl, n3⟩

end Go.Proofs.YtkbdmdnahphkkaaGreatDoor
