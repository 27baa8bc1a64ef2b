/-
  The knots of the program: name. Condition: the knots lie in memory.
-/
import Derived.Test.YtlhdhfhfdkldjaaDoorCkMap
import Derived.Test.YtlhdhfhfdkldjaaDoorCkNewNet
import Derived.Deep.AppendLies
namespace Go.Proofs.YtlhdhfhfdkldjaaDoor
open Go Go.RowKit Go.Shelf
attribute [local go_sem] Oper.semAt_some
theorem info_rf : (Tryd.prog.info? 53).map (fun i => (i.zero, i.size, i.bytes)) = some (some (.agg #[.int .i64 0, .int .i64 0]), 2, 16) := by kernel_rfl
theorem under_rfs : Tryd.prog.underlying 116 = some (.slice 53) := by kernel_rfl
def rfCs (r : Rf) : List Value := [.int .i64 r.log, .int .i64 r.line]
/-- One more line, unless it is there. -/
def addR (l : List Rf) (r : Rf) : List Rf := if r ∈ l then l else l ++ [r]
theorem IdxM.block {w w' : World} {b n : Nat} {l : List Rf} (h : IdxM w b n l) (hb : w'.heap[b]? = w.heap[b]?) : IdxM w' b n l := by
  obtain ⟨D, ⟨es, clock, h1, h2⟩, h3⟩ := h
  exact ⟨D, ⟨es, clock, hb.trans h1, h2⟩, h3⟩
theorem IdxM.at {w : World} {b n : Nat} {l : List Rf} (h : IdxM w b n l) : ∃ es clock, w.heap[b]? = some (.map es clock) := by
  obtain ⟨D, ⟨es, clock, h1, _⟩, _⟩ := h
  exact ⟨es, clock, h1⟩
theorem IdxM.looks {w : World} {b n : Nat} {l : List Rf} (h : IdxM w b n l) {r : Rf} (hr : Sml r) : ∃ c : Int, ∀ w', New w w' → (Instr.lookup 158 (.map (some b)) (rfA r) true).run Tryd.prog w' = .ok (.tuple #[.int .i64 c, .bool (decide (r ∈ l))]) w' := by
  obtain ⟨D, h1, h2, h3⟩ := h
  have key : ∀ w', New w w' → ∃ c : Int, (Instr.lookup 158 (.map (some b)) (rfA r) true).run Tryd.prog w' = .ok (.tuple #[.int .i64 c, .bool (decide (r ∈ l))]) w' ∧ D.atKey (rfL r) (.lit (.int .i64 0)) = .lit (.int .i64 c) := fun w' k => by
    have h1' := h1.kept (grown_of k none) (by simp)
    obtain ⟨v, ps, hrun, hv⟩ := h1'.look_ok rf_law Tryd.underlying158 (zero_i w') (plainElem_int Tryd.underlying3 (by decide)) (rf_reads r hr)
    obtain ⟨c, rfl, hc, _⟩ := plainElem_int_inv Tryd.underlying3 hv
    simp only [Prod.mk.injEq] at hc
    exact ⟨c, by rw [hrun, (h3 r hr).1], hc.1⟩
  obtain ⟨c, _, hc⟩ := key w (New.refl w)
  refine ⟨c, fun w' k => ?_⟩
  obtain ⟨c', hrun, hc'⟩ := key w' k
  have e : c' = c := by have := hc'.symm.trans hc; cases this; rfl
  rw [hrun, e]
/-- The knots, while their lines are named. -/
structure KnI (w0 W : World) (g b : Nat) (win : Int) (l : List Rf) : Prop where
  new : New w0 W
  hg : w0.heap.size ≤ g
  hb : w0.heap.size ≤ b
  lines : ∃ LA lc, RowIs W g 160 [.int .i64 win, .slice LA l.length lc, .map (some b), .slice none 0 0] ∧ W.ownsRow w0.heap.size 53 2 (.slice LA l.length lc) l.length (l.flatMap rfCs)
  idx : IdxM W b l.length l
theorem KnI.keep {w0 W W' : World} {g b : Nat} {win : Int} {l : List Rf} (h : KnI w0 W g b win l) (k : New W W') : KnI w0 W' g b win l := by
  obtain ⟨LA, lc, h1, h2⟩ := h.lines
  exact ⟨h.new.trans k, h.hg, h.hb, ⟨LA, lc, h1.keep k, owns_keep h2 k⟩, h.idx.keep k⟩
/-- The map is written. -/
theorem KnI.mapped {w0 W W' : World} {g b : Nat} {win : Int} {l : List Rf} (h : KnI w0 W g b win l) (hg : W.grownBy W' (some b)) {LA : Option Addr} {lc : Nat} (h1 : RowIs W g 160 [.int .i64 win, .slice LA l.length lc, .map (some b), .slice none 0 0]) (h2 : W.ownsRow w0.heap.size 53 2 (.slice LA l.length lc) l.length (l.flatMap rfCs)) :
    New w0 W' ∧ RowIs W' g 160 [.int .i64 win, .slice LA l.length lc, .map (some b), .slice none 0 0] ∧ W'.ownsRow w0.heap.size 53 2 (.slice LA l.length lc) l.length (l.flatMap rfCs) := by
  obtain ⟨es, clock, hb⟩ := h.idx.at
  refine ⟨Below.grown h.new hg h.new.size (fun k e => by cases e; exact h.hb), h1.grown hg (fun e => ?_), h2.kept hg ?_⟩
  · have e2 : b = g := by cases e; rfl
    unfold RowIs at h1
    rw [← e2, hb] at h1
    cases h1
  · rcases h2.2 with ⟨e, _⟩ | ⟨g', cap, cur, e, _, hh, _⟩
    · rw [e]; exact .inl rfl
    · rw [e]
      refine .inr fun e2 => ?_
      have e3 : g' = b := by simpa [Value.ownBlock] using e2
      rw [e3, hb] at hh
      cases hh
theorem owns_lt {w : World} {b : Nat} {e : TypeId} {size : Nat} {v : Value} {n : Nat} {xs : List Value} (h : w.ownsRow b e size v n xs) : v.ownBlock ≠ some w.heap.size := fun e2 => by
  rcases h.2 with ⟨e, _⟩ | ⟨g', cap, cur, e, _, hh, _⟩
  · rw [e] at e2; simp [Value.ownBlock] at e2
  · rw [e] at e2
    have e3 : g' = w.heap.size := by simpa [Value.ownBlock] using e2
    have := (Array.getElem?_eq_some_iff.1 hh).1
    omega
set_option maxRecDepth 100000 in
set_option maxHeartbeats 8000000 in
theorem ck_name (w0 W : World) (g b : Nat) (win : Int) (l : List Rf) (h : KnI w0 W g b win l) (r : Rf) (hr : Sml r) (hl : l.length ≤ 10000) :
    Calls Tryd.prog 122 #[.pointer (some ⟨g, 0, none⟩), .agg #[.int .i64 r.log, .int .i64 r.line]] W fun e w' => e = .returned (.tuple #[]) ∧ KnI w0 w' g b win (addR l r) ∧ ∀ p e cs, RowIs W p e cs → p ≠ g → e ≠ 53 → RowIs w' p e cs := by
  have n1 := (New.refl W).alloc (.cells #[.int .i64 r.log, .int .i64 r.line] 53)
  have HK := Lib.hid (h.keep n1)
  have HR := Lib.hid (RowIs.new W 53 [.int .i64 r.log, .int .i64 r.line])
  have hne : W.heap.size ≠ g := by
    obtain ⟨_, _, h1, _⟩ := h.lines
    have := h1.lt
    omega
  have HNE := Lib.hid hne
  obtain ⟨LA, lc, hg, hO⟩ := h.lines
  have hown := owns_lt hO
  replace hg := hg.keep n1
  replace hO := owns_keep hO n1
  have HNW := Lib.hid n1
  clear h n1 hne
  go_enter Tryd.func122, Tryd.ntmps122
  go_wp2_with fail
  generalize hB : W.heap.size = B at *
  generalize hW1 : W.alloc (.cells #[.int .i64 r.log, .int .i64 r.line] 53) = W1 at *
  clear hW1
  obtain ⟨cv, hcv⟩ := HK.out.idx.looks hr
  unfold rfA at hcv
  have HSD : Hid (∀ w', New W1 w' → w'.cell? ⟨g, 2, none⟩ = some (.map (some b)) ∧ (w'.cell? ⟨B, 0, none⟩ = some (.int .i64 r.log) ∧ w'.cell? ⟨B, 1, none⟩ = some (.int .i64 r.line)) ∧ (Instr.lookup 158 (.map (some b)) (.agg #[.int .i64 r.log, .int .i64 r.line]) true).run Tryd.prog w' = .ok (.tuple #[.int .i64 cv, .bool (decide (r ∈ l))]) w') := Lib.hid fun w' hn => ⟨(hg.keep hn).cell rfl, ⟨(HR.out.keep hn).cell rfl, (HR.out.keep hn).cell rfl⟩, hcv w' hn⟩
  have HG := Lib.hid hg
  have HO := Lib.hid hO
  clear hg hO hcv
  refine region_plain (by kernel_rfl) (wpAny_of_held (S := fun w' => w'.cell? ⟨g, 2, none⟩ = some (.map (some b)) ∧ (w'.cell? ⟨B, 0, none⟩ = some (.int .i64 r.log) ∧ w'.cell? ⟨B, 1, none⟩ = some (.int .i64 r.line)) ∧ (Instr.lookup 158 (.map (some b)) (.agg #[.int .i64 r.log, .int .i64 r.line]) true).run Tryd.prog w' = .ok (.tuple #[.int .i64 cv, .bool (decide (r ∈ l))]) w') _ _ _ _ ?_)
  change wpAnyH _ _ _ _ _ _ _ _ W1.drew
  have hS := HSD.out W1.drew (New.refl W1).drew
  refine wpAnyH_take (i := 0) (v := ?_) rfl (by kernel_rfl) (by kernel_rfl) (by kernel_rfl) (fun _ _ _ h => h) (Or.inl ⟨by rfl, fun w' hS' => ?_⟩) hS ?_
  rotate_left
  · obtain ⟨s0, ⟨s1, s2⟩, s3⟩ := hS'
    go_simp
    try rfl
  try simp only [List.getElem_toArray, List.getElem_cons_zero, Act.put, List.setIfInBounds_toArray, List.set_cons_zero, List.set_cons_succ]
  refine wpAnyH_take (i := 1) (v := ?_) rfl (by kernel_rfl) (by kernel_rfl) (by kernel_rfl) (fun _ _ _ h => h) (Or.inl ⟨by rfl, fun w' hS' => ?_⟩) hS ?_
  rotate_left
  · obtain ⟨s0, ⟨s1, s2⟩, s3⟩ := hS'
    go_simp
    try rfl
  try simp only [List.getElem_toArray, List.getElem_cons_zero, List.getElem_cons_succ, Act.put, List.setIfInBounds_toArray, List.set_cons_zero, List.set_cons_succ]
  refine wpAnyH_take (i := 2) (v := ?_) rfl (by kernel_rfl) (by kernel_rfl) (by kernel_rfl) (fun _ _ _ h => h) (Or.inl ⟨by rfl, fun w' hS' => ?_⟩) hS ?_
  rotate_left
  · obtain ⟨s0, ⟨s1, s2⟩, s3⟩ := hS'
    go_simp
    try rfl
  try simp only [List.getElem_toArray, List.getElem_cons_zero, List.getElem_cons_succ, Act.put, List.setIfInBounds_toArray, List.set_cons_zero, List.set_cons_succ]
  refine wpAnyH_take (i := 3) (v := ?_) rfl (by kernel_rfl) (by kernel_rfl) (by kernel_rfl) (fun _ _ _ h => h) (Or.inl ⟨by rfl, fun w' hS' => ?_⟩) hS ?_
  rotate_left
  · obtain ⟨s0, ⟨s1, s2⟩, s3⟩ := hS'
    go_simp
    try rfl
  try simp only [List.getElem_toArray, List.getElem_cons_zero, List.getElem_cons_succ, Act.put, List.setIfInBounds_toArray, List.set_cons_zero, List.set_cons_succ]
  refine wpAnyH_take (i := 4) (v := ?_) rfl (by kernel_rfl) (by kernel_rfl) (by kernel_rfl) (fun _ _ _ h => h) (Or.inl ⟨by rfl, fun w' hS' => ?_⟩) hS ?_
  rotate_left
  · obtain ⟨s0, ⟨s1, s2⟩, s3⟩ := hS'
    go_simp
    try rfl
  try simp only [List.getElem_toArray, List.getElem_cons_zero, List.getElem_cons_succ, Act.put, List.setIfInBounds_toArray, List.set_cons_zero, List.set_cons_succ]
  refine wpAnyH_take (i := 5) (v := ?_) rfl (by kernel_rfl) (by kernel_rfl) (by kernel_rfl) (fun _ _ _ h => h) (Or.inl ⟨by rfl, fun w' hS' => ?_⟩) hS ?_
  rotate_left
  · obtain ⟨s0, ⟨s1, s2⟩, s3⟩ := hS'
    go_simp
    try rfl
  try simp only [List.getElem_toArray, List.getElem_cons_zero, List.getElem_cons_succ, Act.put, List.setIfInBounds_toArray, List.set_cons_zero, List.set_cons_succ]
  refine wpAnyH_take (i := 6) (v := ?_) rfl (by kernel_rfl) (by kernel_rfl) (by kernel_rfl) (fun _ _ _ h => h) (Or.inl ⟨by rfl, fun w' hS' => ?_⟩) hS ?_
  rotate_left
  · obtain ⟨s0, ⟨s1, s2⟩, s3⟩ := hS'
    go_simp
    try rfl
  try simp only [List.getElem_toArray, List.getElem_cons_zero, List.getElem_cons_succ, Act.put, List.setIfInBounds_toArray, List.set_cons_zero, List.set_cons_succ]
  refine wpAnyH_take (i := 7) (v := ?_) rfl (by kernel_rfl) (by kernel_rfl) (by kernel_rfl) (fun _ _ _ h => h) (Or.inl ⟨by rfl, fun w' hS' => ?_⟩) hS ?_
  rotate_left
  · obtain ⟨s0, ⟨s1, s2⟩, s3⟩ := hS'
    go_simp
    try rfl
  try simp only [List.getElem_toArray, List.getElem_cons_zero, List.getElem_cons_succ, Act.put, List.setIfInBounds_toArray, List.set_cons_zero, List.set_cons_succ]
  refine wpAnyH_take (i := 8) (v := ?_) rfl (by kernel_rfl) (by kernel_rfl) (by kernel_rfl) (fun _ _ _ h => h) (Or.inl ⟨by rfl, fun w' hS' => ?_⟩) hS ?_
  rotate_left
  · obtain ⟨s0, ⟨s1, s2⟩, s3⟩ := hS'
    go_simp
    try rfl
  try simp only [List.getElem_toArray, List.getElem_cons_zero, List.getElem_cons_succ, Act.put, List.setIfInBounds_toArray, List.set_cons_zero, List.set_cons_succ]
  refine wpAnyH_take (i := 9) (v := ?_) rfl (by kernel_rfl) (by kernel_rfl) (by kernel_rfl) (fun _ _ _ h => h) (Or.inl ⟨by rfl, fun w' hS' => ?_⟩) hS ?_
  rotate_left
  · obtain ⟨s0, ⟨s1, s2⟩, s3⟩ := hS'
    go_simp
    try rfl
  try simp only [List.getElem_toArray, List.getElem_cons_zero, List.getElem_cons_succ, Act.put, List.setIfInBounds_toArray, List.set_cons_zero, List.set_cons_succ]
  refine wpAnyH_take (i := 10) (v := ?_) rfl (by kernel_rfl) (by kernel_rfl) (by kernel_rfl) (fun _ _ _ h => h) (Or.inl ⟨by rfl, fun w' hS' => ?_⟩) hS ?_
  rotate_left
  · obtain ⟨s0, ⟨s1, s2⟩, s3⟩ := hS'
    go_simp
    try rfl
  try simp only [List.getElem_toArray, List.getElem_cons_zero, List.getElem_cons_succ, Act.put, List.setIfInBounds_toArray, List.set_cons_zero, List.set_cons_succ]
  refine wpAnyH_done (by kernel_rfl) ?_ _
  unfold NormQ
  dsimp only [Exit.then]
  clear hS
  have HK2 := Lib.hid (HK.out.keep (New.refl W1).drew)
  have HR2 := Lib.hid HR.out.drew
  have HG2 := Lib.hid HG.out.drew
  have HO2 := Lib.hid (owns_keep HO.out (New.refl W1).drew)
  have HNW2 := Lib.hid (HNW.out.trans (New.refl W1).drew)
  clear HK HR HG HSD HO
  generalize W1.drew = W2 at *
  by_cases hm : r ∈ l
  · have hd : decide (r ∈ l) = true := by simp [hm]
    simp only [hd]
    go_wp2_with fail
    first | go_end0 | refine bodyPost_ret (results_none rfl _ _ _) rfl ?_
    exact ⟨rfl, by unfold addR; rw [if_pos hm]; exact HK2.out, fun p e cs hr _ _ => hr.keep HNW2.out⟩
  · have hd : decide (r ∈ l) = false := by simp [hm]
    simp only [hd]
    have g1 := HG2.out.cell (i := 1) rfl
    have g2 := HG2.out.cell (i := 2) rfl
    have b0 := HR2.out.cell (i := 0) rfl
    have b1 := HR2.out.cell (i := 1) rfl
    go_wp2_with fail
    go_still_tail 10, (by kernel_rfl)
    change wpList _ _ _ _ _ W2.drew
    have HK3 := Lib.hid (HK2.out.keep (New.refl W2).drew)
    have HR3 := Lib.hid HR2.out.drew
    have HG3 := Lib.hid HG2.out.drew
    have HO3 := Lib.hid (owns_keep HO2.out (New.refl W2).drew)
    have HNW3 := Lib.hid (HNW2.out.trans (New.refl W2).drew)
    clear HK2 HR2 HG2 HO2 g1 g2 b0 b1
    generalize W2.drew = W3 at *
    obtain ⟨w4, hrun, him, hgr⟩ := HK3.out.idx.put hr hm (by unfold maxLen; omega) (by omega)
    unfold rfA at hrun
    obtain ⟨n4, q1, q2⟩ := HK3.out.mapped hgr HG3.out HO3.out
    have r4 : RowIs w4 B 53 [.int .i64 r.log, .int .i64 r.line] := HR3.out.grown hgr (fun e => by
      have e2 : b = B := by cases e; rfl
      obtain ⟨es, clock, hb⟩ := HK3.out.idx.at
      have h1 := HR3.out
      unfold RowIs at h1
      rw [← e2, hb] at h1
      cases h1)
    go_wp2_with fail
    have HK4 : Hid (∀ p e cs, RowIs W p e cs → RowIs w4 p e cs) := Lib.hid fun p e cs hr => (hr.keep HNW3.out).grown hgr (fun e2 => by
      have e3 : b = p := by cases e2; rfl
      obtain ⟨es, clock, hb⟩ := HK3.out.idx.at
      have h1 := hr.keep HNW3.out
      unfold RowIs at h1
      rw [← e3, hb] at h1
      cases h1)
    have HQ1 := Lib.hid q1
    have HQ2 := Lib.hid q2
    have HR4 := Lib.hid r4
    have HIM := Lib.hid him
    have HN4 := Lib.hid n4
    have HHG := Lib.hid HK3.out.hg
    have HHB := Lib.hid HK3.out.hb
    clear q1 q2 r4 him hgr hrun HK3 HR3 n4 HG3 HO3
    have HSD : Hid (∀ w', New w4 w' → w'.cell? ⟨g, 1, none⟩ = some (.slice LA l.length lc) ∧ w'.cell? ⟨B, 0, none⟩ = some (.int .i64 r.log) ∧ w'.cell? ⟨B, 1, none⟩ = some (.int .i64 r.line)) := Lib.hid fun w' hn => ⟨(HQ1.out.keep hn).cell rfl, (HR4.out.keep hn).cell rfl, (HR4.out.keep hn).cell rfl⟩
    refine region_plain (by kernel_rfl) (wpAny_lastL (S := fun w' => w'.cell? ⟨g, 1, none⟩ = some (.slice LA l.length lc) ∧ w'.cell? ⟨B, 0, none⟩ = some (.int .i64 r.log) ∧ w'.cell? ⟨B, 1, none⟩ = some (.int .i64 r.line)) rfl (by kernel_rfl) (by kernel_rfl) (by kernel_rfl) ?_)
    simp only [List.dropLast, List.length_cons, List.length_nil, Nat.reduceAdd]
    change wpAnyH _ _ _ _ _ _ _ _ w4.drew
    have hS := HSD.out w4.drew (New.refl w4).drew
    refine wpAnyH_take (i := 0) (v := ?_) rfl (by kernel_rfl) (by kernel_rfl) (by kernel_rfl) (fun _ _ _ h => h) (Or.inl ⟨by rfl, fun w' hS' => ?_⟩) hS ?_
    rotate_left
    · obtain ⟨s0, s1, s2⟩ := hS'
      go_simp
      try rfl
    try simp only [List.getElem_toArray, List.getElem_cons_zero, Act.put, List.setIfInBounds_toArray, List.set_cons_zero, List.set_cons_succ]
    refine wpAnyH_take (i := 1) (v := ?_) rfl (by kernel_rfl) (by kernel_rfl) (by kernel_rfl) (fun _ _ _ h => h) (Or.inl ⟨by rfl, fun w' hS' => ?_⟩) hS ?_
    rotate_left
    · obtain ⟨s0, s1, s2⟩ := hS'
      go_simp
      try rfl
    try simp only [List.getElem_toArray, List.getElem_cons_zero, List.getElem_cons_succ, Act.put, List.setIfInBounds_toArray, List.set_cons_zero, List.set_cons_succ]
    refine wpAnyH_take (i := 2) (v := ?_) rfl (by kernel_rfl) (by kernel_rfl) (by kernel_rfl) (fun _ _ _ h => h) (Or.inl ⟨by rfl, fun w' hS' => ?_⟩) hS ?_
    rotate_left
    · obtain ⟨s0, s1, s2⟩ := hS'
      go_simp
      try rfl
    try simp only [List.getElem_toArray, List.getElem_cons_zero, List.getElem_cons_succ, Act.put, List.setIfInBounds_toArray, List.set_cons_zero, List.set_cons_succ]
    refine wpAnyH_take (i := 3) (v := ?_) rfl (by kernel_rfl) (by kernel_rfl) (by kernel_rfl) (fun _ _ _ h => h) (Or.inl ⟨by rfl, fun w' hS' => ?_⟩) hS ?_
    rotate_left
    · obtain ⟨s0, s1, s2⟩ := hS'
      go_simp
      try rfl
    try simp only [List.getElem_toArray, List.getElem_cons_zero, List.getElem_cons_succ, Act.put, List.setIfInBounds_toArray, List.set_cons_zero, List.set_cons_succ]
    refine wpAnyH_take (i := 4) (v := ?_) rfl (by kernel_rfl) (by kernel_rfl) (by kernel_rfl) (fun _ _ _ h => h) (Or.inl ⟨by rfl, fun w' hS' => ?_⟩) hS ?_
    rotate_left
    · obtain ⟨s0, s1, s2⟩ := hS'
      go_simp
      try rfl
    try simp only [List.getElem_toArray, List.getElem_cons_zero, List.getElem_cons_succ, Act.put, List.setIfInBounds_toArray, List.set_cons_zero, List.set_cons_succ]
    refine wpAnyH_take (i := 5) (v := ?_) rfl (by kernel_rfl) (by kernel_rfl) (by kernel_rfl) (fun _ _ _ h => h) (Or.inl ⟨by rfl, fun w' hS' => ?_⟩) hS ?_
    rotate_left
    · obtain ⟨s0, s1, s2⟩ := hS'
      go_simp
      try rfl
    try simp only [List.getElem_toArray, List.getElem_cons_zero, List.getElem_cons_succ, Act.put, List.setIfInBounds_toArray, List.set_cons_zero, List.set_cons_succ]
    clear hS
    have n5 := ((New.refl w4).drew).alloc (.cells #[.int .i64 r.log, .int .i64 r.line] 53)
    refine wpAnyH_ready (rs := [6]) (by kernel_rfl) (by simp) ?_
    refine AllReadyH.cons rfl (fun K hK => ?_) AllReadyH.nil
    go_simp
    refine hK.out _ _ (HSD.out _ n5) (fun hS => ?_)
    clear hK K hS
    try simp only [List.getElem_toArray, List.getElem_cons_zero, List.getElem_cons_succ, Act.put, List.setIfInBounds_toArray, List.set_cons_zero, List.set_cons_succ]
    obtain ⟨i1, hi1, hy0, hy1, hy2⟩ := info_parts info_rf
    have hq0 := owns_keep HQ2.out n5
    have hm1 : l.length + 1 ≤ maxLen := by unfold maxLen; omega
    have hm2 : (l.length + 1) * 16 ≤ 140737488355328 := by omega
    have hbs : w0.heap.size ≤ (w4.drew.alloc (.cells #[.int .i64 r.log, .int .i64 r.line] 53)).heap.size := by have := n5.size; have := HN4.out.size; omega
    refine wpAnyH_ready (rs := [7]) (by kernel_rfl) (by simp) ?_
    refine AllReadyH.cons rfl (fun K hK => ?_) AllReadyH.nil
    refine step_append_lies _ rfl (.tmp 31) (.tmp 33) 116 rfl w0.heap.size 53 i1 (.agg #[.int .i64 0, .int .i64 0]) 2 16 under_rfs hi1 hy0 hy1 hy2 rfl (by decide) (.slice LA l.length lc) l.length _ rfl hq0 ⟨w4.heap.size, 0, none⟩ 1 1 [.int .i64 r.log, .int .i64 r.line] rfl rfl (World.news_of_block (cs := #[.int .i64 r.log, .int .i64 r.line]) (heap_alloc_new w4.drew _)) (by simp [Value.oneCell']) (by decide) hm1 hm2 hbs _ rfl ?_
    intro g5 cap w5 ho hgw hat hlt5
    have hgb : RowIs w5 B 53 [.int .i64 r.log, .int .i64 r.line] := (HR4.out.keep n5).grown hgw (fun e => hown e)
    obtain ⟨a1, a2, a3, -, -⟩ := push_all 1 hq0 hgw ho (HQ1.out.keep n5) (by decide)
    refine hK.out _ _ ⟨a1.cell rfl, hgb.cell rfl, hgb.cell rfl⟩ (fun hS => ?_)
    clear hK K
    try simp only [List.getElem_toArray, List.getElem_cons_zero, List.getElem_cons_succ, Act.put, List.setIfInBounds_toArray, List.set_cons_zero, List.set_cons_succ]
    refine wpAnyH_take (i := 8) (v := ?_) rfl (by kernel_rfl) (by kernel_rfl) (by kernel_rfl) (fun _ _ _ h => h) (Or.inl ⟨by rfl, fun w' hS' => ?_⟩) hS ?_
    rotate_left
    · obtain ⟨s0, s1, s2⟩ := hS'
      go_simp
      try rfl
    try simp only [List.getElem_toArray, List.getElem_cons_zero, List.getElem_cons_succ, Act.put, List.setIfInBounds_toArray, List.set_cons_zero, List.set_cons_succ]
    refine wpAnyH_take (i := 9) (v := ?_) rfl (by kernel_rfl) (by kernel_rfl) (by kernel_rfl) (fun _ _ _ h => h) (Or.inl ⟨by rfl, fun w' hS' => ?_⟩) hS ?_
    rotate_left
    · obtain ⟨s0, s1, s2⟩ := hS'
      go_simp
      try rfl
    try simp only [List.getElem_toArray, List.getElem_cons_zero, List.getElem_cons_succ, Act.put, List.setIfInBounds_toArray, List.set_cons_zero, List.set_cons_succ]
    refine wpAnyH_done (by kernel_rfl) ?_ _
    clear hS
    have x1 := a1.cell (i := 1) rfl
    have xf := a1.free 1
    have hb5 := Below.trans (HN4.out.trans n5) (grown_below hq0 hgw hbs)
    have HNF : Hid (New w0 (w5.setCell ⟨g, 1, none⟩ (.slice (some ⟨g5, 0, none⟩) (l.length + 1) cap))) := Lib.hid (hb5.setCell HHG.out _)
    have hbk : (w5.setCell ⟨g, 1, none⟩ (.slice (some ⟨g5, 0, none⟩) (l.length + 1) cap)).heap[b]? = w4.heap[b]? := by
      obtain ⟨es, clock, hb⟩ := HIM.out.at
      have hbl := (Array.getElem?_eq_some_iff.1 hb).1
      have e1 : (w4.drew.alloc (.cells #[.int .i64 r.log, .int .i64 r.line] 53)).heap[b]? = w4.heap[b]? := n5.out.block b hbl
      have e2 : w5.heap[b]? = (w4.drew.alloc (.cells #[.int .i64 r.log, .int .i64 r.line] 53)).heap[b]? := hgw.block b (Nat.lt_of_lt_of_le hbl n5.size) (fun e => by
        rcases HQ2.out.2 with ⟨e3, _⟩ | ⟨g', cap', cur, e3, _, hh, _⟩
        · rw [e3] at e; simp [Value.ownBlock] at e
        · rw [e3] at e
          have e4 : b = g' := by simpa [Value.ownBlock] using e
          rw [← e4, hb] at hh
          cases hh)
      have e5 : g ≠ b := fun e => by
        have h1 := HQ1.out
        unfold RowIs at h1
        rw [e, hb] at h1
        cases h1
      exact (Below.heap_setCell w5 ⟨g, 1, none⟩ _ b (fun e => e5 e.symm)).trans (e2.trans e1)
    have HFI := Lib.hid (HIM.out.block hbk)
    have HKF : Hid (∀ p e cs, RowIs W p e cs → p ≠ g → e ≠ 53 → RowIs (w5.setCell ⟨g, 1, none⟩ (.slice (some ⟨g5, 0, none⟩) (l.length + 1) cap)) p e cs) := Lib.hid fun p e cs hr hpg hpe => by
      have h5 := (HK4.out p e cs hr).keep n5
      exact (h5.grown hgw (owns_ne hq0 h5 (Ne.symm hpe))).other (Ne.symm hpg) _ _
    have HA2 := Lib.hid a2
    have HA3 := Lib.hid a3
    clear a1 a2 a3 hbk hb5 hq0 n5 ho hgw hgb
    unfold LastQ NormQ
    go_simp
    first | go_end0 | refine bodyPost_ret (results_none rfl _ _ _) rfl ?_
    have e1 : addR l r = l ++ [r] := by unfold addR; rw [if_neg hm]
    have e2 : (l ++ [r]).length = l.length + 1 := by simp
    refine ⟨rfl, ⟨HNF.out, HHG.out, HHB.out, ⟨some ⟨g5, 0, none⟩, cap, ?_, ?_⟩, ?_⟩, HKF.out⟩
    · rw [e1, e2]; exact HA2.out
    · rw [e1, e2, List.flatMap_append]; exact HA3.out
    · rw [e1, e2]; exact HFI.out
end Go.Proofs.YtlhdhfhfdkldjaaDoor
