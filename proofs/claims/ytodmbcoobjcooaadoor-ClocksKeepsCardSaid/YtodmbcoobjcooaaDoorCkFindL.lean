/-
  FindLoop of the program: a loop where a system does not close. Condition: the system lies in memory.
-/
import Derived.Test.YtodmbcoobjcooaaDoorCkFind
namespace Go.Proofs.YtodmbcoobjcooaaDoor
open Go Go.RowKit Go.Shelf
attribute [local go_sem] Oper.semAt_some
theorem chain_cons {f t : Rf} {b : Bd} {l : List Bd} (h1 : b.frm = f) (h2 : ChainP b.to l t) : ChainP f (b :: l) t := by
  obtain ⟨h3, h4⟩ := h2
  have key : ∀ i, curF f (b :: l) (i + 1) = curF b.to l i := fun i => by
    cases i with
    | zero => rfl
    | succ i => rfl
  refine ⟨fun i hi => ?_, ?_⟩
  · cases i with
    | zero => exact h1
    | succ i =>
      rw [key]
      have := h3 i (by simpa using hi)
      simpa using this
  · rw [List.length_cons, key]
    exact h4
theorem egs_at {s : Sy} {i : Nat} {e : Eg} (h : (egs s)[i]? = some e) : ∃ b, (bnds s)[i]? = some b ∧ egOf s b = e := by
  unfold egs at h
  rw [List.getElem?_map] at h
  cases hb : (bnds s)[i]? with
  | none => rw [hb] at h; cases h
  | some b => rw [hb] at h; exact ⟨b, rfl, by simpa using h⟩
theorem lead_chain {s : Sy} (hs : Ok s) : ∀ (k : List Nat) (u v : Nat), Lead (egs s) u k v → ∀ f t, RefOk s f → plc s f = u → RefOk s t → plc s t = v → ChainP f (namedL s k) t
  | [], u, v, h, f, t, hf, hfu, ht, htv => by
    have e : u = v := h
    refine ⟨fun i hi => by simp [namedL] at hi, ?_⟩
    show f = t
    exact plc_eq hf ht (by rw [hfu, htv, e])
  | i :: k, u, v, ⟨e, h1, h2, h3⟩, f, t, hf, hfu, ht, htv => by
    obtain ⟨b, hb, rfl⟩ := egs_at h1
    have hm : b ∈ bnds s := List.mem_of_getElem? hb
    obtain ⟨k1, k2, -⟩ := bnds_ok hs hm
    have e1 : namedL s (i :: k) = b :: namedL s k := by
      unfold namedL
      rw [List.map_cons, hb]
      rfl
    rw [e1]
    exact chain_cons (plc_eq k1 hf (by rw [hfu]; exact h2)) (lead_chain hs k _ v h3 b.to t k2 rfl ht htv)
theorem lead_in {s : Sy} : ∀ (k : List Nat) (u v : Nat), Lead (egs s) u k v → ∀ i ∈ k, i < (bnds s).length
  | [], _, _, _, i, hi => by cases hi
  | j :: k, u, v, ⟨e, h1, h2, h3⟩, i, hi => by
    rcases List.mem_cons.1 hi with rfl | hi
    · obtain ⟨b, hb, -⟩ := egs_at h1
      exact (List.getElem?_eq_some_iff.1 hb).1
    · exact lead_in k _ _ h3 i hi
theorem named_mem {s : Sy} {k : List Nat} (h : ∀ i ∈ k, i < (bnds s).length) : ∀ b ∈ namedL s k, b ∈ bnds s := fun b hb => by
  obtain ⟨i, hi, rfl⟩ := List.mem_map.1 hb
  rw [List.getElem?_eq_getElem (h i hi)]
  exact List.getElem_mem (h i hi)
theorem sum_named {s : Sy} : ∀ k : List Nat, sumB (namedL s k) = sumI (egs s) k
  | [] => rfl
  | i :: k => by
    have e : sumB (namedL s (i :: k)) = ((bnds s)[i]?.getD default).most + sumB (namedL s k) := by simp [sumB, namedL]
    rw [e, sum_named k, sumI]
    have e2 : costI (egs s) i = ((bnds s)[i]?.getD default).most := by
      unfold costI egs
      rw [List.getElem?_map]
      cases (bnds s)[i]? with
      | none => rfl
      | some b => rfl
    rw [e2]
/-- A loop of a net, as bounds of the system. -/
theorem loop_named {s : Sy} (hs : Ok s) {k : List Nat} {v : Nat} (hk : k ≠ []) (hL : Lead (egs s) v k v) (hneg : sumI (egs s) k < 0) (hkl : k.length ≤ nPl s) : LoopP s (namedL s k) := by
  have hn := nPl_le hs
  have hin := lead_in k _ _ hL
  have hpos : 1 ≤ k.length := by
    cases k with
    | nil => exact absurd rfl hk
    | cons i k => simp
  obtain ⟨i, r, rfl⟩ : ∃ i r, k = i :: r := by
    cases k with
    | nil => exact absurd rfl hk
    | cons i k => exact ⟨i, k, rfl⟩
  obtain ⟨e, h1, h2, h3⟩ := hL
  obtain ⟨b, hb, rfl⟩ := egs_at h1
  have hm : b ∈ bnds s := List.mem_of_getElem? hb
  obtain ⟨k1, -⟩ := bnds_ok hs hm
  have e0 : ((namedL s (i :: r))[0]?.getD default).frm = b.frm := by
    unfold namedL
    rw [List.map_cons, hb]
    rfl
  refine ⟨hs, ⟨⟨by rw [namedL_len]; exact hpos, by rw [namedL_len]; omega⟩, ?_, named_mem hin⟩, by rw [sum_named]; exact hneg⟩
  rw [e0]
  exact lead_chain hs (i :: r) v v ⟨_, h1, h2, h3⟩ _ _ k1 h2 k1 h2
theorem ck_spreadYes (s : Sy) (hs : Ok s) (g : Nat) (w : World) (hN : NetAt w g s (egs s)) (hcl : Closes (egs s)) (r : Rf) (hr : RefOk s r) :
    Calls Tryd.prog 98 #[.pointer (some ⟨g, 0, none⟩), .agg #[.int .i64 r.log, .int .i64 r.line]] w fun e w' => ∃ gw, e = .returned (.tuple #[.pointer (some ⟨gw, 0, none⟩), .slice none 0 0]) ∧ New w w' := by
  refine (ck_spreadG s hs g (egs s) w hN (egs_ok hs) (by have := bnds_len hs; unfold egs; rw [List.length_map]; exact this) r hr).mono ?_
  rintro e w' (⟨gw, sb, bb, EA, ec, d, b, rfl, h1, h2, h3⟩ | ⟨gw, gl, m, c, k, v, rfl, h1, h2, h3, h4, h5, h6⟩)
  · exact ⟨gw, rfl, h1.new⟩
  · obtain ⟨p, hp⟩ := hcl
    have := h3.wk.keeps hp
    omega
theorem ck_spreadLoop (s : Sy) (hs : Ok s) (g : Nat) (w : World) (hN : NetAt w g s (egs s)) (hcl : ¬Closes (egs s)) (r : Rf) (hr : RefOk s r) :
    Calls Tryd.prog 98 #[.pointer (some ⟨g, 0, none⟩), .agg #[.int .i64 r.log, .int .i64 r.line]] w fun e w' => ∃ gw gl m c k v, e = .returned (.tuple #[.pointer (some ⟨gw, 0, none⟩), .slice (some ⟨gl, 0, none⟩) m c]) ∧ New w w' ∧ k ≠ [] ∧ Lead (egs s) v k v ∧ sumI (egs s) k < 0 ∧ w'.ownsRow w.heap.size 3 1 (.slice (some ⟨gl, 0, none⟩) m c) k.length (natV k) ∧ k.length ≤ nPl s := by
  refine (ck_spreadG s hs g (egs s) w hN (egs_ok hs) (by have := bnds_len hs; unfold egs; rw [List.length_map]; exact this) r hr).mono ?_
  rintro e w' (⟨gw, sb, bb, EA, ec, d, b, rfl, h1, h2, h3⟩ | h)
  · exact absurd (calm_closes hs hr h2 h3) hcl
  · exact h
theorem eql_loop (a : Option Addr) (n c : Nat) (w : World) : (binOp .eql 126 (.slice a n c) (.slice none 0 0)).run Tryd.prog w = .ok (.bool a.isNone) w := by
  simp [binOp, run_equal_slice_nil w 126 3 a n c Tryd.underlying126]
/-- What FindLoop answers. -/
def FlA (s : Sy) (w : World) (e : Ending) (w' : World) : Prop :=
  (¬(checkE s = 0 ∧ ¬Closes (egs s)) ∧ e = .returned (.tuple #[.slice none 0 0, .int .i64 (if checkE s = 0 then 3 else checkE s)]) ∧ New w w') ∨
  ((checkE s = 0 ∧ ¬Closes (egs s)) ∧ ∃ A l c, e = .returned (.tuple #[.slice A (List.length l) c, .int .i64 0]) ∧ New w w' ∧ BnsA w' A l ∧ LoopP s l)
set_option maxRecDepth 100000 in
set_option maxHeartbeats 8000000 in
theorem ck_FindLoop (s : Sy) (A D : Option Addr) (c d : Nat) (w : World) (hM : SysM w A D s) (hbeg : BegA w) :
    Calls Tryd.prog 61 #[.agg #[.slice A s.tracks.length c, .slice D s.ties.length d, .int .i64 s.window]] w fun e w' => FlA s w e w' := by
  have n1 := (New.refl w).alloc (.cells #[.slice A s.tracks.length c, .slice D s.ties.length d, .int .i64 s.window] 25)
  have HR := Lib.hid (RowIs.new w 25 [.slice A s.tracks.length c, .slice D s.ties.length d, .int .i64 s.window])
  have HN := Lib.hid n1
  have HC := Lib.hid (ck_Check s A D c d _ (hM.keep n1))
  have HM := Lib.hid hM
  have HB : Hid (∀ w', New w w' → BegA w') := Lib.hid fun w' h => ⟨h.cellOf hbeg.1, h.cellOf hbeg.2⟩
  clear n1 hM hbeg
  have c0 := HR.out.cell (i := 0) rfl
  have c1 := HR.out.cell (i := 1) rfl
  have c2 := HR.out.cell (i := 2) rfl
  by_cases he : checkE s = 0
  · have HS : Hid (Ok s) := Lib.hid he
    have HE := Lib.hid he
    rw [he] at HC
    clear he
    go_enter Tryd.func61, Tryd.ntmps61
    go_wp2_with fail
    refine HC.out.mono ?_
    rintro e w1 ⟨rfl, m1⟩
    have HN1 := Lib.hid (HN.out.trans m1)
    have HR1 := Lib.hid (HR.out.keep m1)
    clear c0 c1 c2 m1 HR HN HC
    go_wp2_with fail
    have HNN : Hid (∀ w', New w1 w' → _) := Lib.hid fun w' h => ck_newNetO s HS.out A D c d w' (HM.out.keep (HN1.out.trans h)) (HB.out _ (HN1.out.trans h))
    have HSD : Hid (∀ w', New w1 w' → (fun w' => New w1 w' ∧ ((w'.cell? ⟨w.heap.size, 0, none⟩ = some (.slice A s.tracks.length c) ∧ w'.cell? ⟨w.heap.size, 1, none⟩ = some (.slice D s.ties.length d) ∧ w'.cell? ⟨w.heap.size, 2, none⟩ = some (.int .i64 s.window)) ∧ BegA w')) w') := Lib.hid fun w' h => ⟨h, ⟨(HR1.out.keep h).cell rfl, (HR1.out.keep h).cell rfl, (HR1.out.keep h).cell rfl⟩, HB.out _ (HN1.out.trans h)⟩
    dsimp only at HSD
    unfold BegA at HSD
    by_cases hcl : Closes (egs s)
    · have HSP : Hid (∀ w' g, NetAt w' g s (egs s) → _) := Lib.hid fun w' g h => ck_spreadYes s HS.out g w' h hcl beg (.inl rfl)
      dsimp only [beg] at HSP
      have HNO : Hid (¬(checkE s = 0 ∧ ¬Closes (egs s))) := Lib.hid fun h => h.2 hcl
      clear hcl
      go_region_held3 (fun w' => New w1 w' ∧ ((w'.cell? ⟨w.heap.size, 0, none⟩ = some (.slice A s.tracks.length c) ∧ w'.cell? ⟨w.heap.size, 1, none⟩ = some (.slice D s.ties.length d) ∧ w'.cell? ⟨w.heap.size, 2, none⟩ = some (.int .i64 s.window)) ∧ (w'.cell? ⟨0, 0, none⟩ = some (.int .i64 (-1)) ∧ w'.cell? ⟨0, 1, none⟩ = some (.int .i64 0))))
        (first | exact HSD.out _ (New.refl _).drew | exact HSD.out _ (New.trans (by first | assumption | exact (by assumption : New _ _ ∧ _).1) (by assumption)))
        (first | (go_at_call 97; with_reducible (refine (HNN.out _ (by first | assumption | exact (New.refl _).drew | exact (by assumption : New _ _ ∧ _).1)).mono ?_); rintro e w' ⟨g, rfl, hO, hg, hb⟩; replace hO := NetO.at hO) | (go_at_call 98; with_reducible (refine (HSP.out _ _ ?_).mono ?_; first | assumption | fail); rintro e w' ⟨gw, rfl, hb⟩))
      all_goals
        have hn : New w1 w' := by first | assumption | exact (by assumption : New w1 w' ∧ _).1
        have hql := eql_loop none 0 0
        simp only [Option.isNone_none] at hql
        go_wp2_with fail
        try go_ret2
        exact .inl ⟨HNO.out, by rw [if_pos HE.out]; rfl, HN1.out.trans hn⟩
    · have HSP : Hid (∀ w' g, NetAt w' g s (egs s) → _) := Lib.hid fun w' g h => ck_spreadLoop s HS.out g w' h hcl beg (.inl rfl)
      dsimp only [beg] at HSP
      have HCN : Hid (checkE s = 0 ∧ ¬Closes (egs s)) := Lib.hid ⟨HE.out, hcl⟩
      clear hcl
      go_region_held3 (fun w' => New w1 w' ∧ ((w'.cell? ⟨w.heap.size, 0, none⟩ = some (.slice A s.tracks.length c) ∧ w'.cell? ⟨w.heap.size, 1, none⟩ = some (.slice D s.ties.length d) ∧ w'.cell? ⟨w.heap.size, 2, none⟩ = some (.int .i64 s.window)) ∧ (w'.cell? ⟨0, 0, none⟩ = some (.int .i64 (-1)) ∧ w'.cell? ⟨0, 1, none⟩ = some (.int .i64 0))))
        (first | exact HSD.out _ (New.refl _).drew | exact HSD.out _ (New.trans (by first | assumption | exact (by assumption : New _ _ ∧ _).1) (by assumption)))
        (first | (go_at_call 97; with_reducible (refine (HNN.out _ (by first | assumption | exact (New.refl _).drew | exact (by assumption : New _ _ ∧ _).1)).mono ?_); rintro e w' ⟨g, rfl, hO, hg, hb⟩; replace hO := NetO.at hO) | (go_at_call 98; with_reducible (refine (HSP.out _ _ ?_).mono ?_; first | assumption | fail); rintro e w' ⟨gw, gl, m, kc, k, v, rfl, hb, hk0, hkL, hkS, hko, hkl⟩))
      all_goals
        have hn : New w1 w' := by first | assumption | exact (by assumption : New w1 w' ∧ _).1
        obtain ⟨A9, c9, e9⟩ := owns_form hko
        simp only [Value.slice.injEq] at e9
        obtain ⟨-, rfl, -⟩ := e9
        have hI := (natV_at hko).2
        have hql := eql_loop (some ⟨gl, 0, none⟩) k.length kc
        simp only [Option.isNone_some] at hql
        have hke : 0 < k.length := by
          cases k with
          | nil => exact absurd rfl hk0
          | cons i r => simp
        have HNW := Lib.hid (HN1.out.trans hn)
        have HNM := Lib.hid (ck_named s HS.out k A D _ c d kc w' (HM.out.keep HNW.out) (HB.out _ HNW.out) hI (lead_in k _ _ hkL) (by have := nPl_le HS.out; omega))
        have HLP := Lib.hid (loop_named HS.out hk0 hkL hkS hkl)
        have c0 := (HR1.out.keep hn).cell (i := 0) rfl
        have c1 := (HR1.out.keep hn).cell (i := 1) rfl
        have c2 := (HR1.out.keep hn).cell (i := 2) rfl
        clear hI hk0 hkL hkS hko hkl hO hg hb HSD HNN HSP hn
        go_wp2_with fail
        refine HNM.out.mono ?_
        rintro e w9 ⟨V, base, rfl, m9, ho⟩
        obtain ⟨VA, vc, rfl⟩ := owns_form ho
        have HBN := Lib.hid (owns_bns ho)
        have HN9 := Lib.hid (HNW.out.trans m9)
        clear m9 ho c0 c1 c2
        go_wp2_with fail
        try go_ret2
        refine .inr ⟨HCN.out, VA, namedL s k, vc, ?_, HN9.out, HBN.out.2, HLP.out⟩
        rw [namedL_len]
        rfl
  · have hne : (checkE s != 0) = true := by simp [he]
    have HNO : Hid (¬(checkE s = 0 ∧ ¬Closes (egs s))) := Lib.hid fun h => he h.1
    unfold FlA
    rw [if_neg he]
    generalize checkE s = er at *
    clear he
    go_enter Tryd.func61, Tryd.ntmps61
    go_wp2_with fail
    refine HC.out.mono ?_
    rintro e w1 ⟨rfl, m1⟩
    go_wp2_with fail
    go_ret2
    exact .inl ⟨HNO.out, rfl, HN.out.trans m1⟩
end Go.Proofs.YtodmbcoobjcooaaDoor
