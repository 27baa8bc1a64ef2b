/-
  What Accept keeps in memory, and what it answers, as plain values. No condition.
  Accept of the program, at a valid system that closes, with some ties in all. Conditions: the system and the ties lie in memory; the numbers of the rows stay within bounds (a premise, on plain values).
-/
import Derived.Test.YtodmbcoobjcooaaDoorCkKnots
import Derived.Test.YtodmbcoobjcooaaDoorCkNames
import Derived.Test.YtodmbcoobjcooaaDoorCkOffer
import Derived.Test.YtodmbcoobjcooaaDoorCkConcat
namespace Go.Proofs.YtodmbcoobjcooaaDoor
open Go Go.RowKit Go.Shelf
def mM0 (l : List Rf) (dd ds : Nat → Nat → Int) : Nat → Nat → Int := fun i j => mostF l dd ds i (l[j]?.getD default)
def stepM (win : Int) (l : List Rf) (M : Nat → Nat → Int) (t : Ti) : Nat → Nat → Int := aM l.length win (l.idxOf t.a) (l.idxOf t.b) M
def foldM (win : Int) (l : List Rf) (L : List Ti) (M : Nat → Nat → Int) : Nat → Nat → Int := L.foldl (stepM win l) M
def okK (win : Int) (l : List Rf) (all : List Ti) (M : Nat → Nat → Int) (j : Nat) : Bool := okT win (l.idxOf (all[j]?.getD default).a) (l.idxOf (all[j]?.getD default).b) (foldM win l (all.take j) M)
/-- The answers to the ties from the p-th on. -/
def ansK (win : Int) (l : List Rf) (all : List Ti) (M : Nat → Nat → Int) (p k : Nat) : List Bool := (List.range k).map fun j => okK win l all M (p + j)
theorem ansK_len (win : Int) (l : List Rf) (all : List Ti) (M : Nat → Nat → Int) (p k : Nat) : (ansK win l all M p k).length = k := by simp [ansK]
theorem ansK_succ (win : Int) (l : List Rf) (all : List Ti) (M : Nat → Nat → Int) (p k : Nat) : ansK win l all M p (k + 1) = ansK win l all M p k ++ [okK win l all M (p + k)] := by simp [ansK, List.range_succ]
theorem foldM_succ (win : Int) (l : List Rf) (all : List Ti) (M : Nat → Nat → Int) {k : Nat} (h : k < all.length) : foldM win l (all.take (k + 1)) M = aM l.length win (l.idxOf (all[k]?.getD default).a) (l.idxOf (all[k]?.getD default).b) (foldM win l (all.take k) M) := by
  unfold foldM
  rw [take_at h, List.foldl_append]
  rfl
theorem namesL_has {L : List Ti} {t : Ti} (h : t ∈ L) : t.a ∈ namesL L ∧ t.b ∈ namesL L := by
  have keep : ∀ (L : List Ti) (l : List Rf) (q : Rf), q ∈ l → q ∈ L.foldl (fun l t => addR (addR l t.a) t.b) l := by
    intro L
    induction L with
    | nil => exact fun l q h => h
    | cons u L ih => exact fun l q h => ih _ q ((addR_mem _ _ _).2 (.inl ((addR_mem _ _ _).2 (.inl h))))
  have key : ∀ (L : List Ti) (l : List Rf), t ∈ L → t.a ∈ L.foldl (fun l t => addR (addR l t.a) t.b) l ∧ t.b ∈ L.foldl (fun l t => addR (addR l t.a) t.b) l := by
    intro L
    induction L with
    | nil => exact fun l h => absurd h (by simp)
    | cons u L ih =>
      intro l h
      rw [List.foldl_cons]
      rcases List.mem_cons.1 h with rfl | h
      · exact ⟨keep _ _ _ ((addR_mem _ _ _).2 (.inl ((addR_mem _ _ _).2 (.inr rfl)))), keep _ _ _ ((addR_mem _ _ _).2 (.inr rfl))⟩
      · exact ih _ h
  exact key L [] h
theorem owns_tis {w : World} {b : Nat} {e : TypeId} {A : Option Addr} {n c : Nat} {l : List Ti} (h : w.ownsRow b e 4 (.slice A n c) n (tisV l)) : TisA w A l := by
  have hl := h.1
  rw [tisV_len] at hl
  obtain rfl : n = l.length := by omega
  rcases h.2 with ⟨h1, h2⟩ | ⟨g, cap, cur, hv, hb, hh, h1, h2, h3, h4⟩
  · have := List.eq_nil_of_length_eq_zero h2
    subst this
    exact TisA.nil _ _
  · simp only [Value.slice.injEq] at hv
    obtain ⟨rfl, -, rfl⟩ := hv
    unfold maxLen at h2
    refine ⟨by omega, fun _ => ⟨g, 0, rfl, (Array.getElem?_eq_some_iff.1 hh).1, fun i hi => ?_⟩⟩
    have key : ∀ r, r < 4 → w.cell? ⟨g, 0 + i * 4 + r, none⟩ = (tiCs l[i])[r]? := fun r hr => by
      rw [Nat.zero_add, h.cellAt (i * 4 + r) (by omega), tisV, fm_get tiCs 4 (fun _ => rfl) l i r hi hr]
    rw [List.getElem?_eq_getElem hi]
    exact ⟨key 0 (by omega), key 1 (by omega), key 2 (by omega), key 3 (by omega)⟩
theorem cell_same {W W' : World} {k : Nat} (h : W'.heap[k]? = W.heap[k]?) (o : Nat) : W'.cell? ⟨k, o, none⟩ = W.cell? ⟨k, o, none⟩ := by
  unfold World.cell?
  rw [h]
theorem frozen_same {W W' : World} {k : Nat} (h : W'.heap[k]? = W.heap[k]?) (o : Nat) : W'.frozen? ⟨k, o, none⟩ = W.frozen? ⟨k, o, none⟩ := by
  unfold World.frozen?
  rw [h]
/-- The knots while ties are added. -/
structure AcI (w W : World) (N g b mb mc : Nat) (win : Int) (l : List Rf) (gs cs : Nat → Nat) (M : Nat → Nat → Int) : Prop where
  new : New w W
  most : MostA W w.heap.size g mb l.length mc win gs cs M
  map : W.cell? ⟨g, 2, none⟩ = some (.map (some b))
  idx : IdxM W b l.length l
  lt : g < N ∧ b < N ∧ mb < N ∧ N ≤ W.heap.size
  rows : ∀ i, i < l.length → gs i < N ∧ gs i ≠ b
theorem AcI.start {w W : World} {g b mb mc : Nat} {win : Int} {l : List Rf} {gs cs : Nat → Nat} {M : Nat → Nat → Int} (hn : New w W) (hm : MostA W w.heap.size g mb l.length mc win gs cs M) (hx : W.cell? ⟨g, 2, none⟩ = some (.map (some b))) (hi : IdxM W b l.length l) (hl : 0 < l.length) : AcI w W W.heap.size g b mb mc win l gs cs M := by
  have h0 := hl
  obtain ⟨es, clock, hb⟩ := hi.at
  refine ⟨hn, hm, hx, hi, ⟨lt_of_cell hx, (Array.getElem?_eq_some_iff.1 hb).1, ?_, Nat.le_refl _⟩, fun i hi => ?_⟩
  · exact lt_of_cell (hm.out 0 h0)
  · have h1 := (hm.row i i hi hi).1
    refine ⟨lt_of_cell h1, fun e => ?_⟩
    rw [e] at h1
    simp [World.cell?, hb] at h1
theorem AcI.same {w W W' : World} {N g b mb mc : Nat} {win : Int} {l : List Rf} {gs cs : Nat → Nat} {M : Nat → Nat → Int} (h : AcI w W N g b mb mc win l gs cs M) (hn : New w W') (hsz : W.heap.size ≤ W'.heap.size) (hs : ∀ k, k < N → W'.heap[k]? = W.heap[k]?) : AcI w W' N g b mb mc win l gs cs M := by
  obtain ⟨h1, h2, h3, h4, ⟨h5, h6, h7, h8⟩, h9⟩ := h
  refine ⟨hn, ⟨?_, ?_, fun i hi => ?_, fun i j hi hj => ⟨?_, ?_⟩, h2.inj, h2.far⟩, ?_, h4.block (hs b h6), ⟨h5, h6, h7, by omega⟩, h9⟩
  · rw [cell_same (hs g h5)]; exact h2.win
  · rw [cell_same (hs g h5)]; exact h2.most
  · rw [cell_same (hs mb h7)]; exact h2.out i hi
  · rw [cell_same (hs _ (h9 i hi).1)]; exact (h2.row i j hi hj).1
  · rw [frozen_same (hs _ (h9 i hi).1)]; exact (h2.row i j hi hj).2
  · rw [cell_same (hs g h5)]; exact h3
theorem AcI.keep {w W W' : World} {N g b mb mc : Nat} {win : Int} {l : List Rf} {gs cs : Nat → Nat} {M : Nat → Nat → Int} (h : AcI w W N g b mb mc win l gs cs M) (k : New W W') : AcI w W' N g b mb mc win l gs cs M :=
  h.same (h.new.trans k) k.size fun i hi => k.out.block i (by have := h.lt; omega)
theorem new_keepGs {w W W' : World} {gs : Nat → Nat} {m : Nat} (h : New w W) (k : KeepGs gs m W W') (hg : ∀ i, i < m → w.heap.size ≤ gs i) : New w W' :=
  ⟨k.1.os.trans h.out.os, k.1.tape.trans h.out.tape, k.1.output.trans h.out.output, Nat.le_trans h.size k.1.size, fun i hi => (k.2 i (Nat.lt_of_lt_of_le hi h.size) (fun j hj e => by have := hg j hj; omega)).trans (h.out.block i hi)⟩
theorem AcI.add {w W W' : World} {N g b mb mc : Nat} {win : Int} {l : List Rf} {gs cs : Nat → Nat} {M M' : Nat → Nat → Int} (h : AcI w W N g b mb mc win l gs cs M) (k : KeepGs gs l.length W W') (hm : MostA W' w.heap.size g mb l.length mc win gs cs M') : AcI w W' N g b mb mc win l gs cs M' := by
  obtain ⟨h1, h2, h3, h4, ⟨h5, h6, h7, h8⟩, h9⟩ := h
  have e1 : W'.heap[g]? = W.heap[g]? := k.2 g (by omega) fun i hi e => (h2.far i hi).2.1 e.symm
  have e2 : W'.heap[b]? = W.heap[b]? := k.2 b (by omega) fun i hi e => (h9 i hi).2 e.symm
  exact ⟨new_keepGs h1 k fun i hi => (h2.far i hi).2.2, hm, by rw [cell_same e1]; exact h3, h4.block e2, ⟨h5, h6, h7, Nat.le_trans h8 k.1.size⟩, h9⟩
theorem owns_keepGs {w w' : World} {gs : Nat → Nat} {m N : Nat} {e : TypeId} {size : Nat} {v : Value} {n : Nat} {xs : List Value} (h : w.ownsRow N e size v n xs) (k : KeepGs gs m w w') (hg : ∀ i, i < m → gs i < N) : w'.ownsRow N e size v n xs := by
  obtain ⟨h1, h2⟩ := h
  refine ⟨h1, ?_⟩
  rcases h2 with h2 | ⟨g, cap, cur, rfl, hb, hh, h3⟩
  · exact Or.inl h2
  · exact Or.inr ⟨g, cap, cur, rfl, hb, (k.2 g (Array.getElem?_eq_some_iff.1 hh).1 (fun i hi e => by have := hg i hi; omega)).trans hh, h3⟩
end Go.Proofs.YtodmbcoobjcooaaDoor

namespace Go.Proofs.YtodmbcoobjcooaaDoor
open Go Go.RowKit Go.Shelf
attribute [local go_sem] Oper.semAt_some
/-- The numbers of the rows stay within bounds, and none is later than itself. -/
def BdsM (ts : List Tk) (all : List Ti) (win : Int) : Prop :=
  ∀ dd ds, DdD ts (namesL all) (namesL all).length dd → (∀ i, i < ts.length → Dist (egs (oneT (ts[i]?.getD default))) (nPl (oneT (ts[i]?.getD default))) 0 22001 (ds i)) → ∀ k, k ≤ all.length →
    (∀ i j, i < (namesL all).length → j < (namesL all).length → -100000000000000 ≤ foldM win (namesL all) (all.take k) (mM0 (namesL all) dd ds) i j ∧ foldM win (namesL all) (all.take k) (mM0 (namesL all) dd ds) i j ≤ 100000000000000) ∧ ∀ i, i < (namesL all).length → foldM win (namesL all) (all.take k) (mM0 (namesL all) dd ds) i i = 0
theorem info_bool : (Tryd.prog.info? 4).map (fun i => (i.zero, i.size, i.bytes)) = some (some (.bool false), 1, 1) := by kernel_rfl
theorem under_bools : Tryd.prog.underlying 66 = some (.slice 4) := by kernel_rfl
set_option maxRecDepth 100000 in
set_option maxHeartbeats 8000000 in
theorem ck_Accept (s : Sy) (hs : Ok s) (hcl : Closes (egs s)) (A D L : Option Addr) (c d lc : Nat) (l all : List Ti) (w : World) (hall : all = s.ties ++ l) (hM : SysM w A D s) (hL : TisA w L l) (hDa : TisAt w (.slice D s.ties.length d) s.ties) (hLa : TisAt w (.slice L l.length lc) l) (hoff : offerE s l = 0) (hlen : s.ties.length + l.length ≤ 400) (h0 : 0 < s.ties.length + l.length) (hbeg : BegA w)
    (hln : ∀ t ∈ all, LineT s.tracks t.a ∧ LineT s.tracks t.b) (hsm : ∀ t ∈ all, Sml t.a ∧ Sml t.b) (hbd : BdsM s.tracks all s.window) :
    Calls Tryd.prog 54 #[.agg #[.slice A s.tracks.length c, .slice D s.ties.length d, .int .i64 s.window], .slice L l.length lc] w fun e w' => ∃ V dd ds, e = .returned (.tuple #[V, .int .i64 0]) ∧ New w w' ∧ w'.ownsRow w.heap.size 4 1 V l.length ((ansK s.window (namesL all) all (mM0 (namesL all) dd ds) s.ties.length l.length).map Value.bool) ∧ DdD s.tracks (namesL all) (namesL all).length dd ∧ ∀ i, i < s.tracks.length → Dist (egs (oneT (s.tracks[i]?.getD default))) (nPl (oneT (s.tracks[i]?.getD default))) 0 22001 (ds i) := by
  have h64 := checkE_ok hs
  have n1 := (New.refl w).alloc (.cells #[.slice A s.tracks.length c, .slice D s.ties.length d, .int .i64 s.window] 25)
  have HR1 := Lib.hid (RowIs.new w 25 [.slice A s.tracks.length c, .slice D s.ties.length d, .int .i64 s.window])
  have HM := Lib.hid (hM.keep n1)
  have HL := Lib.hid (hL.keep n1)
  have HDA := Lib.hid (hDa.keep n1)
  have HLA := Lib.hid (hLa.keep n1)
  have HBG : Hid (BegA (w.alloc (.cells #[.slice A s.tracks.length c, .slice D s.ties.length d, .int .i64 s.window] 25))) := Lib.hid ⟨n1.cellOf hbeg.1, n1.cellOf hbeg.2⟩
  have HN1 := Lib.hid n1
  have HS := Lib.hid hs
  have HCL := Lib.hid hcl
  have H64 := Lib.hid h64
  have HLN := Lib.hid hln
  have HSM := Lib.hid hsm
  have HBD := Lib.hid hbd
  have HALL := Lib.hid hall
  have hal : all.length = s.ties.length + l.length := by rw [hall, List.length_append]
  have HAL := Lib.hid hal
  have HCO : Hid (∀ w', New (w.alloc (.cells #[.slice A s.tracks.length c, .slice D s.ties.length d, .int .i64 s.window] 25)) w' → Calls Tryd.prog 96 #[.agg #[.slice A s.tracks.length c, .slice D s.ties.length d, .int .i64 s.window], .slice L l.length lc] w' fun e w'' => e = .returned (.int .i64 0) ∧ New w' w'') := Lib.hid fun w' h => by
    have := ck_checkOffer s A D L c d lc l w' (HM.out.keep h) (HL.out.keep h)
    rw [hoff] at this
    exact this
  clear n1 hM hL hDa hLa hbeg hs hcl h64 hln hsm hbd hall hal hoff
  have z0 := HR1.out.cell (i := 0) rfl
  have z1 := HR1.out.cell (i := 1) rfl
  have z2 := HR1.out.cell (i := 2) rfl
  go_enter Tryd.func54, Tryd.ntmps54
  go_wp2_with fail
  refine (HCO.out _ (New.refl _)).mono ?_
  rintro e w2 ⟨rfl, m2⟩
  clear z0 z1 z2
  go_wp2_with fail
  generalize hB : w.heap.size = B at *
  generalize hW1 : w.alloc (.cells #[.slice A s.tracks.length c, .slice D s.ties.length d, .int .i64 s.window] 25) = W1 at *
  have HSD : Hid (∀ w', New W1 w' → (w'.cell? ⟨B, 0, none⟩ = some (.slice A s.tracks.length c) ∧ w'.cell? ⟨B, 1, none⟩ = some (.slice D s.ties.length d) ∧ w'.cell? ⟨B, 2, none⟩ = some (.int .i64 s.window)) ∧ (w'.cell? ⟨0, 0, none⟩ = some (.int .i64 (-1)) ∧ w'.cell? ⟨0, 1, none⟩ = some (.int .i64 0))) := Lib.hid fun w' hn => ⟨⟨(HR1.out.keep hn).cell rfl, (HR1.out.keep hn).cell rfl, (HR1.out.keep hn).cell rfl⟩, hn.cellOf HBG.out.1, hn.cellOf HBG.out.2⟩
  have HNN : Hid (∀ w', New W1 w' → Calls Tryd.prog 97 #[.agg #[.slice A s.tracks.length c, .slice D s.ties.length d, .int .i64 s.window]] w' fun e w'' => ∃ g, e = .returned (.pointer (some ⟨g, 0, none⟩)) ∧ NetAt w'' g s (egs s) ∧ w'.heap.size ≤ g ∧ New w' w'') := Lib.hid fun w' h => ck_newNet s HS.out A D c d w' (HM.out.keep h) ⟨h.cellOf HBG.out.1, h.cellOf HBG.out.2⟩
  have HSP : Hid (∀ g w', NetAt w' g s (egs s) → _) := Lib.hid fun g w' hn => ck_spread s HS.out g (egs s) w' hn (egs_ok HS.out) HCL.out (by have := bnds_len HS.out; unfold egs; rw [List.length_map]; exact this) beg (.inl rfl)
  refine region_plain (by kernel_rfl) (wpAny_of_held (S := fun w' => (w'.cell? ⟨B, 0, none⟩ = some (.slice A s.tracks.length c) ∧ w'.cell? ⟨B, 1, none⟩ = some (.slice D s.ties.length d) ∧ w'.cell? ⟨B, 2, none⟩ = some (.int .i64 s.window)) ∧ (w'.cell? ⟨0, 0, none⟩ = some (.int .i64 (-1)) ∧ w'.cell? ⟨0, 1, none⟩ = some (.int .i64 0))) _ _ _ _ ?_)
  change wpAnyH _ _ _ _ _ _ _ _ w2.drew
  have hS := HSD.out w2.drew (m2.trans (New.refl w2).drew)
  refine wpAnyH_take (i := 0) (v := ?_) rfl (by kernel_rfl) (by kernel_rfl) (by kernel_rfl) (fun _ _ _ h => h) (Or.inl ⟨by rfl, fun w' hS' => ?_⟩) hS ?_
  rotate_left
  · obtain ⟨⟨s0, s1, s2⟩, s3, s4⟩ := hS'
    go_simp
    try rfl
  try simp only [List.getElem_toArray, List.getElem_cons_zero, Act.put, List.setIfInBounds_toArray, List.set_cons_zero, List.set_cons_succ]
  refine wpAnyH_take (i := 2) (v := ?_) rfl (by kernel_rfl) (by kernel_rfl) (by kernel_rfl) (fun _ _ _ h => h) (Or.inl ⟨by rfl, fun w' hS' => ?_⟩) hS ?_
  rotate_left
  · obtain ⟨⟨s0, s1, s2⟩, s3, s4⟩ := hS'
    go_simp
    try rfl
  try simp only [List.getElem_toArray, List.getElem_cons_zero, List.getElem_cons_succ, Act.put, List.setIfInBounds_toArray, List.set_cons_zero, List.set_cons_succ]
  clear hS
  refine wpAnyH_ready (rs := [1]) (by kernel_rfl) (by simp) ?_
  refine AllReadyH.cons rfl (fun K hK => ?_) AllReadyH.nil
  go_simp
  refine (HNN.out _ (m2.trans (New.refl w2).drew)).mono ?_
  rintro e w3 ⟨g1, rfl, hnet, -, m3⟩
  have n3 := (m2.trans (New.refl w2).drew).trans m3
  refine hK.out _ _ (HSD.out w3 n3) (fun hS => ?_)
  clear hK K hS
  try simp only [List.getElem_toArray, List.getElem_cons_zero, List.getElem_cons_succ, Act.put, List.setIfInBounds_toArray, List.set_cons_zero, List.set_cons_succ]
  refine wpAnyH_ready (rs := [3]) (by kernel_rfl) (by simp) ?_
  refine AllReadyH.cons rfl (fun K hK => ?_) AllReadyH.nil
  go_simp
  refine (HSP.out _ _ hnet).mono ?_
  rintro e w4 ⟨gw, sb, bb, EA, ec, d1, b1, rfl, hwv, -⟩
  have n4 := n3.trans hwv.new
  refine hK.out _ _ (HSD.out w4 n4) (fun hS => ?_)
  clear hK K hwv hnet m3 n3 m2
  try simp only [List.getElem_toArray, List.getElem_cons_zero, List.getElem_cons_succ, Act.put, List.setIfInBounds_toArray, List.set_cons_zero, List.set_cons_succ]
  refine wpAnyH_take (i := 4) (v := ?_) rfl (by kernel_rfl) (by kernel_rfl) (by kernel_rfl) (fun _ _ _ h => h) (Or.inl ⟨by rfl, fun w' hS' => ?_⟩) hS ?_
  rotate_left
  · obtain ⟨⟨s0, s1, s2⟩, s3, s4⟩ := hS'
    go_simp
    try rfl
  try simp only [List.getElem_toArray, List.getElem_cons_zero, List.getElem_cons_succ, Act.put, List.setIfInBounds_toArray, List.set_cons_zero, List.set_cons_succ]
  refine wpAnyH_take (i := 5) (v := ?_) rfl (by kernel_rfl) (by kernel_rfl) (by kernel_rfl) (fun _ _ _ h => h) (Or.inl ⟨by rfl, fun w' hS' => ?_⟩) hS ?_
  rotate_left
  · obtain ⟨⟨s0, s1, s2⟩, s3, s4⟩ := hS'
    go_simp
    try rfl
  try simp only [List.getElem_toArray, List.getElem_cons_zero, List.getElem_cons_succ, Act.put, List.setIfInBounds_toArray, List.set_cons_zero, List.set_cons_succ]
  refine wpAnyH_take (i := 6) (v := ?_) rfl (by kernel_rfl) (by kernel_rfl) (by kernel_rfl) (fun _ _ _ h => h) (Or.inl ⟨by rfl, fun w' hS' => ?_⟩) hS ?_
  rotate_left
  · obtain ⟨⟨s0, s1, s2⟩, s3, s4⟩ := hS'
    go_simp
    try rfl
  try simp only [List.getElem_toArray, List.getElem_cons_zero, List.getElem_cons_succ, Act.put, List.setIfInBounds_toArray, List.set_cons_zero, List.set_cons_succ]
  refine wpAnyH_take (i := 7) (v := ?_) rfl (by kernel_rfl) (by kernel_rfl) (by kernel_rfl) (fun _ _ _ h => h) (Or.inl ⟨by rfl, fun w' hS' => ?_⟩) hS ?_
  rotate_left
  · obtain ⟨⟨s0, s1, s2⟩, s3, s4⟩ := hS'
    go_simp
    try rfl
  try simp only [List.getElem_toArray, List.getElem_cons_zero, List.getElem_cons_succ, Act.put, List.setIfInBounds_toArray, List.set_cons_zero, List.set_cons_succ]
  refine wpAnyH_take (i := 8) (v := ?_) rfl (by kernel_rfl) (by kernel_rfl) (by kernel_rfl) (fun _ _ _ h => h) (Or.inl ⟨by rfl, fun w' hS' => ?_⟩) hS ?_
  rotate_left
  · obtain ⟨⟨s0, s1, s2⟩, s3, s4⟩ := hS'
    go_simp
    try rfl
  try simp only [List.getElem_toArray, List.getElem_cons_zero, List.getElem_cons_succ, Act.put, List.setIfInBounds_toArray, List.set_cons_zero, List.set_cons_succ]
  refine wpAnyH_done (by kernel_rfl) ?_ _
  unfold NormQ
  dsimp only [Exit.then]
  clear hS
  have z1 := (HSD.out w4 n4).1.2.1
  have HN4 := Lib.hid n4
  have ig : (s.ties.length : Int) + (l.length : Int) ≤ 400 := by omega
  go_wp2_with fail
  clear z1
  refine region_plain (by kernel_rfl) (wpAny_of_held (S := fun w' => (w'.cell? ⟨B, 0, none⟩ = some (.slice A s.tracks.length c) ∧ w'.cell? ⟨B, 1, none⟩ = some (.slice D s.ties.length d) ∧ w'.cell? ⟨B, 2, none⟩ = some (.int .i64 s.window)) ∧ (w'.cell? ⟨0, 0, none⟩ = some (.int .i64 (-1)) ∧ w'.cell? ⟨0, 1, none⟩ = some (.int .i64 0))) _ _ _ _ ?_)
  change wpAnyH _ _ _ _ _ _ _ _ w4.drew
  have hS := HSD.out w4.drew (n4.trans (New.refl w4).drew)
  refine wpAnyH_take (i := 0) (v := ?_) rfl (by kernel_rfl) (by kernel_rfl) (by kernel_rfl) (fun _ _ _ h => h) (Or.inl ⟨by rfl, fun w' hS' => ?_⟩) hS ?_
  rotate_left
  · obtain ⟨⟨s0, s1, s2⟩, s3, s4⟩ := hS'
    go_simp
    try rfl
  try simp only [List.getElem_toArray, List.getElem_cons_zero, Act.put, List.setIfInBounds_toArray, List.set_cons_zero, List.set_cons_succ]
  refine wpAnyH_take (i := 1) (v := ?_) rfl (by kernel_rfl) (by kernel_rfl) (by kernel_rfl) (fun _ _ _ h => h) (Or.inl ⟨by rfl, fun w' hS' => ?_⟩) hS ?_
  rotate_left
  · obtain ⟨⟨s0, s1, s2⟩, s3, s4⟩ := hS'
    go_simp
    try rfl
  try simp only [List.getElem_toArray, List.getElem_cons_zero, List.getElem_cons_succ, Act.put, List.setIfInBounds_toArray, List.set_cons_zero, List.set_cons_succ]
  refine wpAnyH_take (i := 2) (v := ?_) rfl (by kernel_rfl) (by kernel_rfl) (by kernel_rfl) (fun _ _ _ h => h) (Or.inl ⟨by rfl, fun w' hS' => ?_⟩) hS ?_
  rotate_left
  · obtain ⟨⟨s0, s1, s2⟩, s3, s4⟩ := hS'
    go_simp
    try rfl
  try simp only [List.getElem_toArray, List.getElem_cons_zero, List.getElem_cons_succ, Act.put, List.setIfInBounds_toArray, List.set_cons_zero, List.set_cons_succ]
  refine wpAnyH_take (i := 3) (v := ?_) rfl (by kernel_rfl) (by kernel_rfl) (by kernel_rfl) (fun _ _ _ h => h) (Or.inl ⟨by rfl, fun w' hS' => ?_⟩) hS ?_
  rotate_left
  · obtain ⟨⟨s0, s1, s2⟩, s3, s4⟩ := hS'
    go_simp
    try rfl
  try simp only [List.getElem_toArray, List.getElem_cons_zero, List.getElem_cons_succ, Act.put, List.setIfInBounds_toArray, List.set_cons_zero, List.set_cons_succ]
  refine wpAnyH_take (i := 4) (v := ?_) rfl (by kernel_rfl) (by kernel_rfl) (by kernel_rfl) (fun _ _ _ h => h) (Or.inl ⟨by rfl, fun w' hS' => ?_⟩) hS ?_
  rotate_left
  · obtain ⟨⟨s0, s1, s2⟩, s3, s4⟩ := hS'
    go_simp
    try rfl
  try simp only [List.getElem_toArray, List.getElem_cons_zero, List.getElem_cons_succ, Act.put, List.setIfInBounds_toArray, List.set_cons_zero, List.set_cons_succ]
  refine wpAnyH_take (i := 5) (v := ?_) rfl (by kernel_rfl) (by kernel_rfl) (by kernel_rfl) (fun _ _ _ h => h) (Or.inl ⟨by rfl, fun w' hS' => ?_⟩) hS ?_
  rotate_left
  · obtain ⟨⟨s0, s1, s2⟩, s3, s4⟩ := hS'
    go_simp
    try rfl
  try simp only [List.getElem_toArray, List.getElem_cons_zero, List.getElem_cons_succ, Act.put, List.setIfInBounds_toArray, List.set_cons_zero, List.set_cons_succ]
  refine wpAnyH_take (i := 6) (v := ?_) rfl (by kernel_rfl) (by kernel_rfl) (by kernel_rfl) (fun _ _ _ h => h) (Or.inl ⟨by rfl, fun w' hS' => ?_⟩) hS ?_
  rotate_left
  · obtain ⟨⟨s0, s1, s2⟩, s3, s4⟩ := hS'
    go_simp
    try rfl
  try simp only [List.getElem_toArray, List.getElem_cons_zero, List.getElem_cons_succ, Act.put, List.setIfInBounds_toArray, List.set_cons_zero, List.set_cons_succ]
  clear hS
  have n5 := (n4.trans (New.refl w4).drew).alloc (.cells #[.slice D s.ties.length d, .slice L l.length lc] 23)
  have HR5 := Lib.hid (RowIs.new w4.drew 23 [.slice D s.ties.length d, .slice L l.length lc])
  refine wpAnyH_ready (rs := [7]) (by kernel_rfl) (by simp) ?_
  refine AllReadyH.cons rfl (fun K hK => ?_) AllReadyH.nil
  go_simp
  refine hK.out _ _ (HSD.out _ n5) (fun hS => ?_)
  clear hK K hS
  try simp only [List.getElem_toArray, List.getElem_cons_zero, List.getElem_cons_succ, Act.put, List.setIfInBounds_toArray, List.set_cons_zero, List.set_cons_succ]
  have hsum : sumLen [s.ties, l] = all.length := by rw [HAL.out]; simp [sumLen]
  have hflat : [s.ties, l].flatten = all := by rw [HALL.out]; simp
  have HCC := Lib.hid (ck_Concat [.slice D s.ties.length d, .slice L l.length lc] [s.ties, l] (w4.drew.alloc (.cells #[.slice D s.ties.length d, .slice L l.length lc] 23)) w4.drew.heap.size 0 2 HR5.out.lt (fun i u hu => by rw [Nat.zero_add]; exact HR5.out.cell hu) rfl (fun i u x hu hx => by
    rcases i with _ | _ | i
    · simp at hu hx; subst hu; subst hx; exact HDA.out.keep n5
    · simp at hu hx; subst hu; subst hx; exact HLA.out.keep n5
    · simp at hu) (by rw [hsum, HAL.out]; omega) (by rw [hsum, HAL.out]; omega) (by simp))
  rw [hsum, hflat] at HCC
  refine wpAnyH_ready (rs := [8]) (by kernel_rfl) (by simp) ?_
  refine AllReadyH.cons rfl (fun K hK => ?_) AllReadyH.nil
  go_simp
  refine HCC.out.mono ?_
  rintro e w6 ⟨v6, rfl, how, m6⟩
  obtain ⟨AA, ac, rfl⟩ := owns_form how
  have n6 := n5.trans m6
  refine hK.out _ _ (HSD.out _ n6) (fun hS => ?_)
  clear hK K hS
  try simp only [List.getElem_toArray, List.getElem_cons_zero, List.getElem_cons_succ, Act.put, List.setIfInBounds_toArray, List.set_cons_zero, List.set_cons_succ]
  have HKN := Lib.hid (ck_newKnots w6 A AA c ac s.tracks.length s.window all (owns_tis how) (by have := HAL.out; omega) HSM.out s.tracks rfl (by have := H64.out.1; omega) (HM.out.keep n6).1 H64.out.2.2.1 ⟨n6.cellOf HBG.out.1, n6.cellOf HBG.out.2⟩ HLN.out)
  refine wpAnyH_ready (rs := [9]) (by kernel_rfl) (by simp) ?_
  refine AllReadyH.cons rfl (fun K hK => ?_) AllReadyH.nil
  go_simp
  refine HKN.out.mono ?_
  rintro e w7 ⟨LA, lc7, dd, ds, rfl, hkm, hdd, hds⟩
  have n7 := n6.trans hkm.new
  refine hK.out _ _ (HSD.out _ n7) (fun hS => ?_)
  clear hK K
  try simp only [List.getElem_toArray, List.getElem_cons_zero, List.getElem_cons_succ, Act.put, List.setIfInBounds_toArray, List.set_cons_zero, List.set_cons_succ]
  refine wpAnyH_take (i := 10) (v := ?_) rfl (by kernel_rfl) (by kernel_rfl) (by kernel_rfl) (fun _ _ _ h => h) (Or.inl ⟨by rfl, fun w' hS' => ?_⟩) hS ?_
  rotate_left
  · obtain ⟨⟨s0, s1, s2⟩, s3, s4⟩ := hS'
    go_simp
    try rfl
  try simp only [List.getElem_toArray, List.getElem_cons_zero, List.getElem_cons_succ, Act.put, List.setIfInBounds_toArray, List.set_cons_zero, List.set_cons_succ]
  refine wpAnyH_done (by kernel_rfl) ?_ _
  unfold NormQ
  dsimp only [Exit.then]
  have z1 := (HSD.out w7 n7).1.2.1
  have HDD := Lib.hid hdd
  have HDS := Lib.hid hds
  have HB2 : Hid (∀ k, k ≤ all.length → _) := Lib.hid (HBD.out dd ds hdd hds)
  have hn0 : 0 < (namesL all).length := by
    cases hal : all with
    | nil => rw [hal] at HAL; have := HAL.out; simp at this; omega
    | cons t L' =>
      have := (namesL_has (L := t :: L') (t := t) List.mem_cons_self).1
      exact List.length_pos_of_mem this
  obtain ⟨mb, mc, gs, cs, hma, hx⟩ := hkm.most_at hn0
  have HNM : Hid ((namesL all).length ≤ 100000) := Lib.hid (by
    have := namesL_len all all.length (Nat.le_refl _)
    rw [List.take_length] at this
    have := HAL.out
    omega)
  have HAC : Hid (AcI w6 w7 w7.heap.size (w6.heap.size + 1) w6.heap.size mb mc s.window (namesL all) gs cs (foldM s.window (namesL all) (all.take 0) (mM0 (namesL all) dd ds))) := Lib.hid (AcI.start hkm.new hma hx hkm.idx hn0)
  have HN6 := Lib.hid n6
  have HN6X : Hid (New w w6) := Lib.hid (HN1.out.trans n6)
  have HSZ : Hid (w.heap.size ≤ W1.heap.size) := Lib.hid (by rw [← hW1]; simp)
  clear hdd hds hma hx hkm hS how m6 n4 n5 n6 n7 HSD HNN HSP HCO HCC HKN HR5 hW1
  generalize hM0 : mM0 (namesL all) dd ds = M0 at *
  have HMEM : Hid (∀ k, k < all.length → (Sml (all[k]?.getD default).a ∧ Sml (all[k]?.getD default).b) ∧ (all[k]?.getD default).a ∈ namesL all ∧ (all[k]?.getD default).b ∈ namesL all) := Lib.hid fun k hk => by
    have hm : all[k]?.getD default ∈ all := by rw [getD_get hk]; exact List.getElem_mem _
    exact ⟨HSM.out _ hm, namesL_has hm⟩
  have HADD : Hid (∀ k, k < all.length → ∀ W', AcI w6 W' w7.heap.size (w6.heap.size + 1) w6.heap.size mb mc s.window (namesL all) gs cs (foldM s.window (namesL all) (all.take k) M0) → Calls Tryd.prog 101 #[.pointer (some ⟨w6.heap.size + 1, 0, none⟩), .agg #[.int .i64 (all[k]?.getD default).a.log, .int .i64 (all[k]?.getD default).a.line, .int .i64 (all[k]?.getD default).b.log, .int .i64 (all[k]?.getD default).b.line]] W' fun e w' => e = .returned (.bool (okK s.window (namesL all) all M0 k)) ∧ KeepGs gs (namesL all).length W' w' ∧ AcI w6 w' w7.heap.size (w6.heap.size + 1) w6.heap.size mb mc s.window (namesL all) gs cs (foldM s.window (namesL all) (all.take (k + 1)) M0)) := Lib.hid fun k hk W' hac => by
    have hm := HMEM.out k hk
    have hb := HB2.out k (by omega)
    refine (ck_add W' w6.heap.size (w6.heap.size + 1) mb (namesL all).length mc w6.heap.size (namesL all).length s.window gs cs _ hac.most (namesL all) hac.map hac.idx rfl HNM.out (all[k]?.getD default).a (all[k]?.getD default).b hm.1.1 hm.1.2 hm.2.1 hm.2.2 _ _ rfl rfl (by have := H64.out.2.2.2.2; omega) hb.1 hb.2).mono ?_
    rintro e w' ⟨h1, h2, h3⟩
    exact ⟨h1, h2, by rw [foldM_succ _ _ _ _ hk]; exact hac.add h2 h3⟩
  go_wp2_with fail
  clear z1
  go_loopw [50] (fun i wr => ∃ k : Nat, k ≤ s.ties.length ∧ i = .int .i64 k ∧ AcI w6 wr w7.heap.size (w6.heap.size + 1) w6.heap.size mb mc s.window (namesL all) gs cs (foldM s.window (namesL all) (all.take k) M0)) (fun i _ => s.ties.length - (intOf i).toNat)
  case atStart => exact ⟨0, Nat.zero_le _, rfl, HAC.out⟩
  case round =>
    obtain ⟨k, hk, rfl, hac⟩ := hrel
    by_cases hlt : k < s.ties.length
    · have hn := HN6.out.trans hac.new
      obtain ⟨tb, to, hD, -, hc⟩ := (HM.out.keep hn).2.2 (by omega)
      subst hD
      have hcc := hc k hlt
      have hka : k < all.length := by have := HAL.out; omega
      have HE : Hid (s.ties[k]?.getD default = all[k]?.getD default) := Lib.hid (by rw [HALL.out, List.getElem?_append_left hlt])
      rw [HE.out] at hcc
      have ik : (k : Int) < (s.ties.length : Int) := by omega
      have HAK := HADD.out k hka
      have HAC2 := Lib.hid hac
      clear hc hac hn HE
      generalize all[k]?.getD default = t at *
      obtain ⟨⟨al, an⟩, ⟨bl, bn⟩⟩ := t
      obtain ⟨c0, c1, c2, c3⟩ := hcc
      dsimp only at c0 c1 c2 c3 HAK
      have n1 := (New.refl wr).alloc (.cells #[.int .i64 al, .int .i64 an, .int .i64 bl, .int .i64 bn] 79)
      have HK := Lib.hid (HAK _ (HAC2.out.keep n1))
      clear HAK n1
      go_wp2_with fail
      refine HK.out.mono ?_
      rintro e w8 ⟨rfl, -, hac⟩
      go_wp2_with fail
      go_roundw
      case rel => exact ⟨k + 1, by omega, rfl, hac⟩
      case measure => simp [intOf]; omega
    · obtain rfl : k = s.ties.length := by omega
      clear HAC
      have HAC := Lib.hid hac
      have HSW : Hid (w7.heap.size ≤ wr.heap.size) := Lib.hid hac.lt.2.2.2
      have HSX : Hid (w.heap.size ≤ wr.heap.size) := Lib.hid (by have := HSZ.out; have := HN6.out.size; have := hac.new.size; omega)
      clear hac
      go_wp2_with fail
      obtain ⟨wq, rfl⟩ : ∃ wq, wq = wr := ⟨_, rfl⟩
      go_loopw [12, 60] (fun V i wr2 => ∃ k : Nat, k ≤ l.length ∧ i = .int .i64 k ∧ wr2.ownsRow wq.heap.size 4 1 V k ((ansK s.window (namesL all) all M0 s.ties.length k).map Value.bool) ∧ wq.heap.size ≤ wr2.heap.size ∧ AcI w6 wr2 w7.heap.size (w6.heap.size + 1) w6.heap.size mb mc s.window (namesL all) gs cs (foldM s.window (namesL all) (all.take (s.ties.length + k)) M0)) (fun _ i _ => l.length - (intOf i).toNat)
      case atStart => exact ⟨0, Nat.zero_le _, rfl, World.ownsRow_nil _ _ _ _, Nat.le_refl _, HAC.out⟩
      case round =>
        obtain ⟨j, hj, rfl, how, hsz, hac⟩ := hrel
        obtain ⟨VA, vc, rfl⟩ := owns_form how
        by_cases hlt2 : j < l.length
        · have hn := HN6.out.trans hac.new
          obtain ⟨tb, to, hD, -, hc⟩ := (HL.out.keep hn).2 (by omega)
          subst hD
          have hcc := hc j hlt2
          have hka : s.ties.length + j < all.length := by have := HAL.out; omega
          have HE : Hid (l[j]?.getD default = all[s.ties.length + j]?.getD default) := Lib.hid (by
            rw [HALL.out, List.getElem?_append_right (by omega)]
            congr 2
            omega)
          rw [HE.out] at hcc
          have ik : (j : Int) < (l.length : Int) := by omega
          have HAK := HADD.out (s.ties.length + j) hka
          have HAC2 := Lib.hid hac
          have HSZ2 := Lib.hid hsz
          have HOW := Lib.hid how
          have hans := ansK_succ s.window (namesL all) all M0 s.ties.length j
          have HANS := Lib.hid hans
          have HANL := Lib.hid (ansK_len s.window (namesL all) all M0 s.ties.length j)
          clear hc hac hn HE how hsz hans
          generalize okK s.window (namesL all) all M0 (s.ties.length + j) = ok at *
          generalize all[s.ties.length + j]?.getD default = t at *
          obtain ⟨⟨al, an⟩, ⟨bl, bn⟩⟩ := t
          obtain ⟨c0, c1, c2, c3⟩ := hcc
          dsimp only at c0 c1 c2 c3 HAK
          have n1 := (New.refl wr).alloc (.cells #[.int .i64 al, .int .i64 an, .int .i64 bl, .int .i64 bn] 79)
          have HK := Lib.hid (HAK _ (HAC2.out.keep n1))
          have HN1 := Lib.hid n1
          clear HAK n1
          go_wp2_with fail
          refine HK.out.mono ?_
          rintro e w8 ⟨rfl, hkg, hac⟩
          have hgs : ∀ i, i < (namesL all).length → gs i < wq.heap.size := fun i hi => by have := (HAC2.out.rows i hi).1; have := HSW.out; omega
          have HO8 := Lib.hid (owns_keepGs (owns_keep HOW.out HN1.out) hkg hgs)
          have HS8 : Hid (wq.heap.size ≤ w8.heap.size) := Lib.hid (by have := HSZ2.out; have := HN1.out.size; have := hkg.1.size; omega)
          have HAC8 := Lib.hid hac
          obtain ⟨i0, hi0, hz0, hz1, hz2⟩ := info_parts info_bool
          have HI := Lib.hid (And.intro hi0 (And.intro hz0 (And.intro hz1 hz2)))
          clear hi0 hz0 hz1 hz2 hac hkg hgs HAC2 HOW HSZ2
          go_wp2_with (at_builtin; go_loud (refine wpList_append_lies _ rfl (.tmp 64) (.tmp 68) 66 rfl wq.heap.size 4 i0 (.bool false) 1 1 under_bools HI.out.1 HI.out.2.1 HI.out.2.2.1 HI.out.2.2.2 rfl (by decide) (.slice VA j vc) j _ rfl (owns_keep HO8.out ((New.refl w8).alloc _)) ⟨w8.heap.size, 0, none⟩ 1 1 [.bool ok] rfl rfl ?c1 ?c2 (by decide) ?c3 ?c4 ?c5 _ rfl ?_))
          case c1 => exact World.news_of_block (heap_alloc_new _ _)
          case c2 => simp [Value.oneCell']
          case c3 => unfold maxLen; omega
          case c4 => omega
          case c5 => have := HS8.out; simp; omega
          intro g9 cap9 w9 ho9 hg9 _ _
          have ka := (New.refl w8).alloc (.cells #[.bool ok] 4)
          have hv9 := owns_keep HO8.out ka
          have HO9 := Lib.hid ho9
          have HS9 : Hid (wq.heap.size ≤ w9.heap.size) := Lib.hid (by have := HS8.out; have := ka.size; have := hg9.size; omega)
          have HA9 : Hid (AcI w6 w9 w7.heap.size (w6.heap.size + 1) w6.heap.size mb mc s.window (namesL all) gs cs (foldM s.window (namesL all) (all.take (s.ties.length + j + 1)) M0)) := Lib.hid (by
            have hb : Below wq.heap.size (w8.alloc (.cells #[.bool ok] 4)) w9 := grown_below hv9 hg9 (by have := HS8.out; have := ka.size; omega)
            have hsz : w6.heap.size ≤ wq.heap.size := by have := HAC.out.new.size; omega
            refine HAC8.out.same (Below.trans (HAC8.out.new.trans ka) (Below.mono hb hsz)) (Nat.le_trans ka.size hg9.size) fun k hk => ?_
            have h1 := HSW.out
            have h2 := HS8.out
            rw [hb.block k (by omega)]
            exact ka.out.block k (by omega))
          clear ka hv9 ho9 hg9
          go_wp2_with fail
          go_roundw
          case rel =>
            refine ⟨j + 1, by omega, rfl, ?_, HS9.out, HA9.out⟩
            rw [HANS.out, List.map_append]
            exact HO9.out
          case measure => simp [intOf]; omega
        · obtain rfl : j = l.length := by omega
          go_wp2_with fail
          go_ret2
          subst hM0
          exact ⟨_, dd, ds, rfl, HN6X.out.trans hac.new, owns_base how HSX.out, HDD.out, HDS.out⟩
end Go.Proofs.YtodmbcoobjcooaaDoor
