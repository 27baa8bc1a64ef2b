/-
  leads of the program: whether bounds are bounds of a system that lead from one ref to another one. Condition: the system and the bounds lie in memory, the bounds' numbers are 64 bit ones.
-/
import Derived.Test.YtodmbcoobjcooaaDoorCkSet
import Derived.Test.YtodmbcoobjcooaaDoorCkKeeps
namespace Go.Proofs.YtodmbcoobjcooaaDoor
open Go Go.RowKit Go.Shelf
attribute [local go_sem] Oper.semAt_some
/-- From where the bound number k must lead. -/
def curF (f : Rf) (l : List Bd) : Nat → Rf
  | 0 => f
  | k + 1 => (l[k]?.getD default).to
/-- Bounds that lead from one ref to another one. -/
def ChainP (f : Rf) (l : List Bd) (t : Rf) : Prop := (∀ i, i < l.length → (l[i]?.getD default).frm = curF f l i) ∧ curF f l l.length = t
/-- Bounds of a system that lead from one ref to another one, from 1 to 30000. -/
def LeadsP (s : Sy) (l : List Bd) (f t : Rf) : Prop := (1 ≤ l.length ∧ l.length ≤ 30000) ∧ ChainP f l t ∧ ∀ b ∈ l, b ∈ bnds s
/-- Between two rounds of the loop over the iterator. -/
def LdI (s : Sy) (n0 M n bm bf bt L : Nat) (f t : Rf) (l : List Bd) (w : World) (pre : List (BdOf s)) (W : World) : Prop :=
  (∃ S, SetM W M n S ∧ ∀ y, y ∈ S ↔ y ∈ l ∧ y ∉ pre.map (·.1)) ∧ RowIs W bm 152 [.map (some M)] ∧ RowIs W bf 53 [.int .i64 f.log, .int .i64 f.line] ∧ RowIs W bt 53 [.int .i64 t.log, .int .i64 t.line] ∧ Below n0 w W ∧ L ≤ W.heap.size
theorem ldI_own (s : Sy) (n0 M n bm bf bt L B : Nat) (f t : Rf) (l : List Bd) (w : World) (hn : n0 ≤ B) (hw : n0 = w.heap.size) (hM : M < B) : OwnFrom B (LdI s n0 M n bm bf bt L f t l w) := fun pre X Y row hs hg hr => by
  obtain ⟨⟨S, h0, hS⟩, h1, h2, h3, h5, h6⟩ := hs
  obtain ⟨es, clock, hb⟩ := h0.at
  refine ⟨⟨S, h0.block (hg.block M (Array.getElem?_eq_some_iff.1 hb).1 (fun e => by have := (hr M e.symm).1; omega)), hS⟩, rowIs_own B bm _ _ () X Y row h1 hg hr, rowIs_own B bf _ _ () X Y row h2 hg hr, rowIs_own B bt _ _ () X Y row h3 hg hr, ?_, Nat.le_trans h6 hg.size⟩
  exact h5.grown hg (by have := h5.size; omega) (fun k e => by have := (hr k e).1; omega)
theorem LdI.keep {s : Sy} {n0 M n bm bf bt L : Nat} {f t : Rf} {l : List Bd} {w : World} {pre : List (BdOf s)} {W W' : World} (h : LdI s n0 M n bm bf bt L f t l w pre W) (k : New W W') (hw : n0 ≤ w.heap.size) : LdI s n0 M n bm bf bt L f t l w pre W' := by
  obtain ⟨⟨S, h0, hS⟩, h1, h2, h3, h5, h6⟩ := h
  exact ⟨⟨S, h0.keep k, hS⟩, h1.keep k, h2.keep k, h3.keep k, h5.trans (Below.mono k (Nat.le_trans hw h5.size)), Nat.le_trans h6 k.size⟩
/-- What turns a block that is no cells leaves all blocks of cells. -/
theorem evC_grown {n0 M : Nat} {W W' : World} (hg : W.grownBy W' (some M)) (hM : ∃ es clock, W.heap[M]? = some (.map es clock)) (hn : n0 ≤ M) : Ev n0 wfC SafeC W W' := by
  obtain ⟨es, clock, hb⟩ := hM
  have hlt := (Array.getElem?_eq_some_iff.1 hb).1
  refine ⟨(Below.refl n0 W).grown hg (by omega) (fun k e => by cases e; omega), fun _ => ⟨trivial, fun k hk => ?_⟩⟩
  obtain ⟨c, e, f, h1⟩ := hk
  have hkM : k ≠ M := fun e2 => by subst e2; rw [h1] at hb; cases hb
  have h4 := hg.block k (Array.getElem?_eq_some_iff.1 h1).1 (fun e2 => hkM (Option.some.inj e2))
  exact ⟨⟨c, e, f, h4.trans h1⟩, h4⟩
theorem setM_row {W W' : World} {M g : Nat} {e : TypeId} {cs : List Value} (hg : W.grownBy W' (some M)) (hM : ∃ es clock, W.heap[M]? = some (.map es clock)) (h : RowIs W g e cs) : RowIs W' g e cs := by
  obtain ⟨es, clock, hb⟩ := hM
  refine h.grown hg (fun e2 => ?_)
  have e3 : M = g := Option.some.inj e2
  subst e3
  unfold RowIs at h
  rw [hb] at h
  cases h
theorem bnds_kid {s : Sy} (hs : Ok s) {b : Bd} (h : b ∈ bnds s) : (1 ≤ b.kind ∧ b.kind ≤ 4) ∧ 0 ≤ b.id ∧ b.id ≤ 400 := by
  have ht : ∀ i, i < s.tracks.length → (tkAt s i).times.length ≤ 400 := fun i hi => (trackB_facts (hs.track hi)).2.2.2.2.2.1
  have hti := (checkE_ok hs).2.1
  unfold bnds at h
  rcases List.mem_append.1 h with h | h
  · rcases List.mem_append.1 h with h | h
    · obtain ⟨i, hi, h⟩ := List.mem_flatMap.1 h
      obtain ⟨j, hj, h⟩ := List.mem_flatMap.1 h
      have h1 := ht i (List.mem_range.1 hi)
      have h2 := List.mem_range.1 hj
      simp only [List.mem_cons, List.not_mem_nil, or_false] at h
      rcases h with rfl | rfl
      · exact ⟨⟨by first | (show (1 : Int) ≤ 1; decide) | (show (1 : Int) ≤ 2; decide) | (show (1 : Int) ≤ 3; decide) | (show (1 : Int) ≤ 4; decide) | (show (2 : Int) ≤ 4; decide) | (show (3 : Int) ≤ 4; decide), by first | (show (1 : Int) ≤ 1; decide) | (show (1 : Int) ≤ 2; decide) | (show (1 : Int) ≤ 3; decide) | (show (1 : Int) ≤ 4; decide) | (show (2 : Int) ≤ 4; decide) | (show (3 : Int) ≤ 4; decide)⟩, Int.natCast_nonneg _, by show (j : Int) ≤ 400; omega⟩
      · exact ⟨⟨by first | (show (1 : Int) ≤ 1; decide) | (show (1 : Int) ≤ 2; decide) | (show (1 : Int) ≤ 3; decide) | (show (1 : Int) ≤ 4; decide) | (show (2 : Int) ≤ 4; decide) | (show (3 : Int) ≤ 4; decide), by first | (show (1 : Int) ≤ 1; decide) | (show (1 : Int) ≤ 2; decide) | (show (1 : Int) ≤ 3; decide) | (show (1 : Int) ≤ 4; decide) | (show (2 : Int) ≤ 4; decide) | (show (3 : Int) ≤ 4; decide)⟩, Int.natCast_nonneg _, by show (j : Int) ≤ 400; omega⟩
    · obtain ⟨i, hi, h⟩ := List.mem_flatMap.1 h
      obtain ⟨j, hj, h⟩ := List.mem_flatMap.1 h
      have h1 := ht i (List.mem_range.1 hi)
      have h2 := List.mem_range.1 hj
      unfold stepL at h
      rcases List.mem_cons.1 h with rfl | h
      · exact ⟨⟨by first | (show (1 : Int) ≤ 1; decide) | (show (1 : Int) ≤ 2; decide) | (show (1 : Int) ≤ 3; decide) | (show (1 : Int) ≤ 4; decide) | (show (2 : Int) ≤ 4; decide) | (show (3 : Int) ≤ 4; decide), by first | (show (1 : Int) ≤ 1; decide) | (show (1 : Int) ≤ 2; decide) | (show (1 : Int) ≤ 3; decide) | (show (1 : Int) ≤ 4; decide) | (show (2 : Int) ≤ 4; decide) | (show (3 : Int) ≤ 4; decide)⟩, Int.natCast_nonneg _, by show (j : Int) ≤ 400; omega⟩
      · split at h
        · simp only [List.mem_cons, List.not_mem_nil, or_false] at h
          rcases h with rfl | rfl
          · exact ⟨⟨by first | (show (1 : Int) ≤ 1; decide) | (show (1 : Int) ≤ 2; decide) | (show (1 : Int) ≤ 3; decide) | (show (1 : Int) ≤ 4; decide) | (show (2 : Int) ≤ 4; decide) | (show (3 : Int) ≤ 4; decide), by first | (show (1 : Int) ≤ 1; decide) | (show (1 : Int) ≤ 2; decide) | (show (1 : Int) ≤ 3; decide) | (show (1 : Int) ≤ 4; decide) | (show (2 : Int) ≤ 4; decide) | (show (3 : Int) ≤ 4; decide)⟩, Int.natCast_nonneg _, by show (j : Int) ≤ 400; omega⟩
          · exact ⟨⟨by first | (show (1 : Int) ≤ 1; decide) | (show (1 : Int) ≤ 2; decide) | (show (1 : Int) ≤ 3; decide) | (show (1 : Int) ≤ 4; decide) | (show (2 : Int) ≤ 4; decide) | (show (3 : Int) ≤ 4; decide), by first | (show (1 : Int) ≤ 1; decide) | (show (1 : Int) ≤ 2; decide) | (show (1 : Int) ≤ 3; decide) | (show (1 : Int) ≤ 4; decide) | (show (2 : Int) ≤ 4; decide) | (show (3 : Int) ≤ 4; decide)⟩, Int.natCast_nonneg _, by show (j : Int) ≤ 400; omega⟩
        · cases h
  · obtain ⟨i, hi, h⟩ := List.mem_flatMap.1 h
    have h2 := List.mem_range.1 hi
    simp only [List.mem_cons, List.not_mem_nil, or_false] at h
    rcases h with rfl | rfl
    · exact ⟨⟨by show (1 : Int) ≤ 4; decide, by show (4 : Int) ≤ 4; decide⟩, by show (0 : Int) ≤ (i : Int); omega, by show (i : Int) ≤ 400; omega⟩
    · exact ⟨⟨by show (1 : Int) ≤ 4; decide, by show (4 : Int) ≤ 4; decide⟩, by show (0 : Int) ≤ (i : Int); omega, by show (i : Int) ≤ 400; omega⟩
theorem ref_wf {s : Sy} (hs : Ok s) {r : Rf} (h : RefOk s r) : (Lit.int .i64 r.log).wf = true ∧ (Lit.int .i64 r.line).wf = true := by
  rcases h with rfl | h
  · exact ⟨by decide, by decide⟩
  · obtain ⟨-, -, -, a1, a2, a3, a4⟩ := plc_line h
    have h1 := (checkE_ok hs).1
    have h2 := (trackB_facts (hs.track a1)).2.2.2.2.2.1
    exact ⟨WalkArith.wf_i64 (by omega), WalkArith.wf_i64 (by omega)⟩
theorem bnds_wf {s : Sy} (hs : Ok s) {b : Bd} (h : b ∈ bnds s) : BdW b := by
  obtain ⟨h1, h2, -, h3, h4⟩ := bnds_ok hs h
  obtain ⟨k1, k2⟩ := bnds_kid hs h
  exact ⟨(ref_wf hs h1).1, (ref_wf hs h1).2, (ref_wf hs h2).1, (ref_wf hs h2).2, WalkArith.wf_i64 (by omega), WalkArith.wf_i64 (by omega), WalkArith.wf_i64 (by omega)⟩
theorem withinLen (n : Nat) : wiB n 1 30000 = decide (1 ≤ n ∧ n ≤ 30000) := by
  unfold wiB
  by_cases h1 : 1 ≤ n
  · by_cases h2 : n ≤ 30000
    · simp [h1, h2]; omega
    · simp [h1, h2]; omega
  · simp [h1]; omega
/-- What leads answers. -/
def LdA (s : Sy) (l : List Bd) (f t : Rf) (w : World) (e : Ending) (w' : World) : Prop := ∃ r : Bool, e = .returned (.bool r) ∧ New w w' ∧ (r = true ↔ LeadsP s l f t)
set_option maxRecDepth 100000 in
set_option maxHeartbeats 8000000 in
theorem ck_leads (s : Sy) (hs : Ok s) (l : List Bd) (A D L : Option Addr) (c d lc : Nat) (f t : Rf) (w : World) (hM : SysM w A D s) (hbeg : BegA w) (hL : BnsA w L l) (hw : ∀ b ∈ l, BdW b) :
    Calls Tryd.prog 91 #[.agg #[.slice A s.tracks.length c, .slice D s.ties.length d, .int .i64 s.window], .slice L l.length lc, .agg #[.int .i64 f.log, .int .i64 f.line], .agg #[.int .i64 t.log, .int .i64 t.line]] w fun e w' => LdA s l f t w e w' := by
  obtain ⟨fl, fn⟩ := f
  obtain ⟨tl, tn⟩ := t
  dsimp only
  have n3 := (((New.refl w).alloc (.cells #[.slice A s.tracks.length c, .slice D s.ties.length d, .int .i64 s.window] 25)).alloc (.cells #[.int .i64 fl, .int .i64 fn] 53)).alloc (.cells #[.int .i64 tl, .int .i64 tn] 53)
  have r0 := (RowIs.new w 25 [.slice A s.tracks.length c, .slice D s.ties.length d, .int .i64 s.window]).keep (((New.refl _).alloc (.cells #[.int .i64 fl, .int .i64 fn] 53)).alloc (.cells #[.int .i64 tl, .int .i64 tn] 53))
  have r1 := (RowIs.new (w.alloc (.cells #[.slice A s.tracks.length c, .slice D s.ties.length d, .int .i64 s.window] 25)) 53 [.int .i64 fl, .int .i64 fn]).keep ((New.refl _).alloc (.cells #[.int .i64 tl, .int .i64 tn] 53))
  have r2 := RowIs.new ((w.alloc (.cells #[.slice A s.tracks.length c, .slice D s.ties.length d, .int .i64 s.window] 25)).alloc (.cells #[.int .i64 fl, .int .i64 fn] 53)) 53 [.int .i64 tl, .int .i64 tn]
  simp only [World.size_alloc] at r1 r2
  have HR0 := Lib.hid r0
  have HR1 := Lib.hid r1
  have HR2 := Lib.hid r2
  have HN := Lib.hid n3
  have HM := Lib.hid hM
  have HBG := Lib.hid hbeg
  have HL := Lib.hid hL
  have HS := Lib.hid hs
  have HW := Lib.hid hw
  have hll := hL.1
  clear hM hbeg hL hs hw r0 r1 r2 n3
  have hwl := withinLen l.length
  cases hlen : decide (1 ≤ l.length ∧ l.length ≤ 30000) with
  | false =>
    rw [hlen] at hwl
    have HNO : Hid (¬LeadsP s l ⟨fl, fn⟩ ⟨tl, tn⟩) := Lib.hid fun h => (of_decide_eq_false hlen) h.1
    clear hlen
    go_enter Tryd.func91, Tryd.ntmps91
    go_wp2_with fail
    refine (ck_withinIs hwl _).mono ?_
    rintro e w1 ⟨rfl, rfl⟩
    go_wp2_with fail
    go_ret
    exact ⟨false, rfl, HN.out, ⟨(fun h => by cases h), fun h => absurd h HNO.out⟩⟩
  | true =>
  rw [hlen] at hwl
  have HLEN := Lib.hid (of_decide_eq_true hlen)
  clear hlen
  have hmap : ∀ w : World, (Instr.makeMap 152 none).run Tryd.prog w = .ok (.map (some w.heap.size)) (w.alloc (.map #[] 0)) := fun _ => rfl
  refine (callsIn_wide (n := 6)).1 ?_
  refine callsIn_of_wp_marks Tryd.func91 rfl trivial ?_ rfl
  simp only [Tryd.ntmps91, List.size_toArray, List.length_cons, List.length_nil, Nat.reduceAdd, Nat.reduceSub, Array.replicate_succ, Array.replicate_zero, List.push_toArray, List.append_toArray, List.nil_append, List.cons_append]
  gi_wp2_with fail
  refine ⟨trivial, (callsIn_wide.2 (ck_withinIs hwl _)).mono ?_⟩
  rintro e w1 ⟨rfl, rfl⟩
  clear hwl
  gi_wp2_with fail
  generalize hWa : ((w.alloc (.cells #[.slice A s.tracks.length c, .slice D s.ties.length d, .int .i64 s.window] 25)).alloc (.cells #[.int .i64 fl, .int .i64 fn] 53)).alloc (.cells #[.int .i64 tl, .int .i64 tn] 53) = Wa at *
  have hsza : Wa.heap.size = w.heap.size + 1 + 1 + 1 := by rw [← hWa]; simp
  clear hWa
  have k2 := ((New.refl Wa).alloc (.map #[] 0)).alloc (.cells #[.map (some (w.heap.size + 1 + 1 + 1))] 152)
  have hs0 := (SetM.made Wa).keep ((New.refl _).alloc (.cells #[.map (some (w.heap.size + 1 + 1 + 1))] 152))
  rw [hsza] at hs0
  have HS0 := Lib.hid hs0
  have rm := RowIs.new (Wa.alloc (.map #[] 0)) 152 [.map (some (w.heap.size + 1 + 1 + 1))]
  simp only [World.size_alloc, hsza] at rm
  have HRM := Lib.hid rm
  have HA0 := Lib.hid (HR0.out.keep k2)
  have HA1 := Lib.hid (HR1.out.keep k2)
  have HA2 := Lib.hid (HR2.out.keep k2)
  have HNa := Lib.hid (HN.out.trans k2)
  clear k2 rm hs0 HR0 HR1 HR2 HN hmap
  gi_wp2_with fail
  generalize hWb : (Wa.alloc (.map #[] 0)).alloc (.cells #[.map (some (w.heap.size + 1 + 1 + 1))] 152) = Wb at *
  clear hWb hsza
  generalize hM : w.heap.size + 1 + 1 + 1 = M at *
  have HM0 : Hid (M = w.heap.size + 3) := Lib.hid (by omega)
  clear hM
  gi_loopw [20] (fun i wr => ∃ (k : Nat) (S : List Bd), k ≤ l.length ∧ i = .int .i64 k ∧ (∀ i, i < k → (l[i]?.getD default).frm = curF ⟨fl, fn⟩ l i) ∧ SetM wr M k S ∧ (∀ y, y ∈ S ↔ y ∈ l.take k) ∧ RowIs wr (M + 1) 152 [.map (some M)] ∧ RowIs wr w.heap.size 25 [.slice A s.tracks.length c, .slice D s.ties.length d, .int .i64 s.window] ∧ RowIs wr (w.heap.size + 1) 53 [.int .i64 (curF ⟨fl, fn⟩ l k).log, .int .i64 (curF ⟨fl, fn⟩ l k).line] ∧ RowIs wr (w.heap.size + 1 + 1) 53 [.int .i64 tl, .int .i64 tn] ∧ New w wr) (fun i _ => l.length - (intOf i).toNat)
  case atStart => exact ⟨0, [], Nat.zero_le _, rfl, (fun i h => absurd h (Nat.not_lt_zero i)), HS0.out, (fun y => by simp), HRM.out, HA0.out, HA1.out, HA2.out, HNa.out⟩
  case round =>
    obtain ⟨k, S, hk, rfl, hch, hS, hSm, hrm, ha0, ha1, ha2, hn⟩ := hrel
    clear HS0 HRM HA0 HA1 HA2 HNa
    have hszr := hrm.lt
    by_cases hlt : k < l.length
    · obtain ⟨lb, lo, rfl, -, hlc⟩ := (HL.out.keep hn).2 (by omega)
      obtain ⟨z0, z1, z2, z3, z4, z5, z6⟩ := hlc k hlt
      have ik : (k : Int) < (l.length : Int) := by omega
      have hbw := HW.out (l[k]?.getD default) (by rw [List.getElem?_eq_getElem hlt]; exact List.getElem_mem hlt)
      have hsucc : curF ⟨fl, fn⟩ l (k + 1) = (l[k]?.getD default).to := rfl
      have htake : l.take (k + 1) = l.take k ++ [l[k]?.getD default] := take_at hlt
      have HCH := Lib.hid hch
      have HSM := Lib.hid hSm
      have HSC := Lib.hid hsucc
      have HTK := Lib.hid htake
      have HBW := Lib.hid hbw
      have HLK : Hid (∀ i, i < k + 1 → (l[k]?.getD default).frm = curF ⟨fl, fn⟩ l k → (l[i]?.getD default).frm = curF ⟨fl, fn⟩ l i) := Lib.hid fun i hi he => by
        by_cases e : i < k
        · exact hch i e
        · obtain rfl : i = k := by omega
          exact he
      have HNO : Hid ((l[k]?.getD default).frm ≠ curF ⟨fl, fn⟩ l k → ¬LeadsP s l ⟨fl, fn⟩ ⟨tl, tn⟩) := Lib.hid fun hne h => hne (h.2.1.1 k hlt)
      have HS1 := Lib.hid hS
      have HM1 := Lib.hid hrm
      have HA0 := Lib.hid ha0
      have HA1 := Lib.hid ha1
      have HA2 := Lib.hid ha2
      have HN1 := Lib.hid hn
      have p0 := ha1.cell (i := 0) rfl
      have p1 := ha1.cell (i := 1) rfl
      have pf0 := ha1.free 0
      have pf1 := ha1.free 1
      have q0 := ha1.lt
      clear hlc hbw hsucc htake hch hSm hS hrm ha0 ha1 ha2 hn
      generalize l[k]?.getD default = x at *
      generalize curF ⟨fl, fn⟩ l k = cu at *
      obtain ⟨cl, cn⟩ := cu
      obtain ⟨⟨xl, xn⟩, ⟨yl, yn⟩, mo, kd, ix⟩ := x
      dsimp only at z0 z1 z2 z3 z4 z5 z6 p0 p1
      by_cases he1 : xl = cl
      · by_cases he2 : xn = cn
        · subst he1 he2
          have hMM := HM0.out
          have hy1 : ∀ (p : Nat) e cs, RowIs wr p e cs → p ≠ w.heap.size + 1 → RowIs ((wr.setCell ⟨w.heap.size + 1, 0, none⟩ (.int .i64 yl)).setCell ⟨w.heap.size + 1, 1, none⟩ (.int .i64 yn)) p e cs := fun p e cs h hp => (h.other (Ne.symm hp) 0 _).other (Ne.symm hp) 1 _
          have hyA := (HA1.out.put 0 (.int .i64 yl)).put 1 (.int .i64 yn)
          have hyS : SetM ((wr.setCell ⟨w.heap.size + 1, 0, none⟩ (.int .i64 yl)).setCell ⟨w.heap.size + 1, 1, none⟩ (.int .i64 yn)) M k S := HS1.out.block ((Below.heap_setCell _ ⟨w.heap.size + 1, 1, none⟩ _ M (by show M ≠ w.heap.size + 1; omega)).trans (Below.heap_setCell _ ⟨w.heap.size + 1, 0, none⟩ _ M (by show M ≠ w.heap.size + 1; omega)))
          have hyN : New w ((wr.setCell ⟨w.heap.size + 1, 0, none⟩ (.int .i64 yl)).setCell ⟨w.heap.size + 1, 1, none⟩ (.int .i64 yn)) := (HN1.out.setCell (p := ⟨w.heap.size + 1, 0, none⟩) (by show w.heap.size ≤ w.heap.size + 1; omega) _).setCell (p := ⟨w.heap.size + 1, 1, none⟩) (by show w.heap.size ≤ w.heap.size + 1; omega) _
          have HY0 := Lib.hid (hy1 _ _ _ HA0.out (by omega))
          have HY2 := Lib.hid (hy1 _ _ _ HA2.out (by omega))
          have HYM := Lib.hid (hy1 _ _ _ HM1.out (by omega))
          have HYA := Lib.hid hyA
          have HYS := Lib.hid hyS
          have HYN := Lib.hid hyN
          have hszy : ((wr.setCell ⟨w.heap.size + 1, 0, none⟩ (.int .i64 yl)).setCell ⟨w.heap.size + 1, 1, none⟩ (.int .i64 yn)).heap.size = wr.heap.size := by simp [World.setCell]
          clear hy1 hyA hyS hyN hMM
          have k6 := (New.refl ((wr.setCell ⟨w.heap.size + 1, 0, none⟩ (.int .i64 yl)).setCell ⟨w.heap.size + 1, 1, none⟩ (.int .i64 yn))).alloc (.cells #[.int .i64 xl, .int .i64 xn, .int .i64 yl, .int .i64 yn, .int .i64 mo, .int .i64 kd, .int .i64 ix] 91)
          have rb := RowIs.new ((wr.setCell ⟨w.heap.size + 1, 0, none⟩ (.int .i64 yl)).setCell ⟨w.heap.size + 1, 1, none⟩ (.int .i64 yn)) 91 [.int .i64 xl, .int .i64 xn, .int .i64 yl, .int .i64 yn, .int .i64 mo, .int .i64 kd, .int .i64 ix]
          rw [hszy] at rb
          obtain ⟨w8, hrun, hset, hgr⟩ := (HYS.out.keep k6).put HBW.out (by unfold maxLen; have := HLEN.out; omega)
          have hmat := (HYS.out.keep k6).at
          have HZ0 := Lib.hid (setM_row hgr hmat (HY0.out.keep k6))
          have HZ1 := Lib.hid (setM_row hgr hmat (HYA.out.keep k6))
          have HZ2 := Lib.hid (setM_row hgr hmat (HY2.out.keep k6))
          have HZM := Lib.hid (setM_row hgr hmat (HYM.out.keep k6))
          have HZN : Hid (New w w8) := Lib.hid (Below.grown (HYN.out.trans k6) hgr (HYN.out.trans k6).size (fun q e => by cases e; have := HM0.out; omega))
          have HSET := Lib.hid hset
          have m0 := (HYM.out.keep k6).cell (i := 0) rfl
          have b0 := rb.cell (i := 0) rfl
          have b1 := rb.cell (i := 1) rfl
          have b2 := rb.cell (i := 2) rfl
          have b3 := rb.cell (i := 3) rfl
          have b4 := rb.cell (i := 4) rfl
          have b5 := rb.cell (i := 5) rfl
          have b6 := rb.cell (i := 6) rfl
          unfold bdA at hrun
          dsimp only at hrun
          clear k6 rb hset hgr hmat hszy HY0 HYA HY2 HYM HYS HYN
          gi_wp2_with fail
          go_roundw
          case rel => exact ⟨k + 1, addB S ⟨⟨xl, xn⟩, ⟨yl, yn⟩, mo, kd, ix⟩, by omega, by go_num, (fun i hi => HLK.out i hi rfl), HSET.out, (fun y => by rw [HTK.out, mem_addB, List.mem_append, HSM.out, List.mem_singleton]), HZM.out, HZ0.out, by rw [HSC.out]; exact HZ1.out, HZ2.out, HZN.out⟩
          case measure => simp [intOf]; omega
        · subst he1
          have e2 : (xn == cn) = false := by simp [he2]
          have hno := HNO.out (fun e => he2 (congrArg Rf.line e))
          gi_wp2_with fail
          refine ⟨_, results_tmp rfl _ _ _, ?_⟩; exact ⟨false, rfl, HN1.out.alloc _, ⟨(fun h => by cases h), fun h => absurd h hno⟩⟩
      · have e1 : (xl == cl) = false := by simp [he1]
        have hno := HNO.out (fun e => he1 (congrArg Rf.log e))
        gi_wp2_with fail
        refine ⟨_, results_tmp rfl _ _ _, ?_⟩; exact ⟨false, rfl, HN1.out.alloc _, ⟨(fun h => by cases h), fun h => absurd h hno⟩⟩
    · obtain rfl : k = l.length := by omega
      rw [List.take_length] at hSm
      have hCF : curF ⟨fl, fn⟩ l l.length = ⟨tl, tn⟩ → ChainP ⟨fl, fn⟩ l ⟨tl, tn⟩ := fun h => ⟨hch, h⟩
      have HCF := Lib.hid hCF
      have hCN : ∀ h : LeadsP s l ⟨fl, fn⟩ ⟨tl, tn⟩, curF ⟨fl, fn⟩ l l.length = ⟨tl, tn⟩ := fun h => h.2.1.2
      have HCN := Lib.hid hCN
      clear hCF hCN hch
      generalize curF ⟨fl, fn⟩ l l.length = cu at *
      have c0 := ha0.cell (i := 0) rfl
      have c1 := ha0.cell (i := 1) rfl
      have c2 := ha0.cell (i := 2) rfl
      have q0 := ha0.lt
      gi_wp2_with fail
      refine ⟨trivial, (ck_bounds _ _ _ _ _).mono ?_⟩
      rintro e w' ⟨rfl, rfl⟩
      have ns := (New.refl wr).alloc (.cells #[.slice A s.tracks.length c, .slice D s.ties.length d, .int .i64 s.window] 25)
      have RS := RowIs.new wr 25 [.slice A s.tracks.length c, .slice D s.ties.length d, .int .i64 s.window]
      have HNL := Lib.hid (hn.trans ns)
      have hszL : (wr.alloc (.cells #[.slice A s.tracks.length c, .slice D s.ties.length d, .int .i64 s.window] 25)).heap.size = wr.heap.size + 1 := by simp
      have hbl := bnds_len HS.out
      have HI0 : Hid (LdI s w.heap.size M l.length (M + 1) (w.heap.size + 1) (w.heap.size + 1 + 1) (wr.alloc (.cells #[.slice A s.tracks.length c, .slice D s.ties.length d, .int .i64 s.window] 25)).heap.size cu ⟨tl, tn⟩ l w [] (wr.alloc (.cells #[.slice A s.tracks.length c, .slice D s.ties.length d, .int .i64 s.window] 25))) :=
        Lib.hid ⟨⟨S, hS.keep ns, fun y => by rw [hSm]; simp⟩, hrm.keep ns, ha1.keep ns, ha2.keep ns, hn.trans ns, Nat.le_refl _⟩
      have HSEQ := Lib.hid (bounds_stops (sftC w.heap.size) s HS.out A D c d wr.heap.size _ w rfl HNL.out trivial HM.out HBG.out ⟨⟨_, _, _, RS⟩, RS⟩ (6 - 1))
      have HLT : Hid (M + 1 < wr.heap.size) := Lib.hid hrm.lt
      clear ns RS c0 c1 c2 q0 hS hSm hrm ha0 ha1 ha2 hn
      generalize hWL : wr.alloc (.cells #[.slice A s.tracks.length c, .slice D s.ties.length d, .int .i64 s.window] 25) = WL at *
      have HSZ := Lib.hid hszL
      clear hWL hszL
      gi_wp2_with fail
      refine range_box 35 12 91 (fun x : BdOf s => bdV x.1) (fun x : BdOf s => bdCs x.1) rfl (by omega) (gf := 113) (lb := #[.pointer (some ⟨wr.heap.size, 0, none⟩)]) rfl trivial (enters_of Tryd.func113 (by kernel_rfl) rfl)
        HSEQ.out (fun {A B C} h k => Ev.trans h k) (fun W l o o' hl h1 h2 _ => evC_put hl (by have := HM0.out; have := HLT.out; have := HSZ.out; omega) h1 h2) (Below.refl _ _) (fun _ => rfl)
        (LdI s w.heap.size M l.length (M + 1) (w.heap.size + 1) (w.heap.size + 1 + 1) WL.heap.size cu ⟨tl, tn⟩ l w) (fun _ _ _ => False) (ldI_own s _ _ _ _ _ _ _ _ _ _ _ w (by have := HM0.out; have := HLT.out; have := HSZ.out; omega) rfl (by have := HM0.out; have := HLT.out; have := HSZ.out; omega)) (fun _ _ _ _ _ hs _ _ => hs) HI0.out ?assign ?body ?done ?stop
      case stop =>
        rintro D cc pre W _ _ h _
        exact h.elim
      case assign =>
        intro lp pre x W K hi hK
        have HKK := Lib.hid hK
        have hb5 := hi.2.2.2.2.1
        have hb6 := hi.2.2.2.2.2
        have HBI := Lib.hid hi
        clear hK hi
        obtain ⟨⟨⟨fl, fi⟩, ⟨tl, ti⟩, mo, kd, id⟩, hx⟩ := x
        unfold bdV
        gi_wp2
        exact HKK.out W.heap.size _ ((KeepsOthers.alloc _ _).from _) (Ev.new (sftC _) hb5.size ((New.refl W).alloc _)) (HBI.out.keep ((New.refl W).alloc _) (Nat.le_refl _)) hb6 (RowIs.new W _ _)
      case body =>
        rintro lp pre ⟨⟨⟨xl, xn⟩, ⟨yl, yn⟩, mo, kd, ix⟩, hx⟩ Bx W hni hBx hrx hlen
        obtain ⟨⟨S2, h0, hS2⟩, h1, h2, h3, h5, h6⟩ := hni
        dsimp only at hrx ⊢
        have hbw := bnds_wf HS.out hx
        obtain ⟨w8, hrun, hset, hgr⟩ := h0.drop hbw 0
        have hmat := h0.at
        have HKF : Hid (KeepsFrom WL.heap.size W w8) := Lib.hid (KeepsFrom.of_grownBy hgr (fun j e => by cases e; have := HLT.out; have := HSZ.out; omega))
        have HEV := Lib.hid (evC_grown (n0 := w.heap.size) hgr hmat (by have := HM0.out; omega))
        have HLI : Hid (LdI s w.heap.size M l.length (M + 1) (w.heap.size + 1) (w.heap.size + 1 + 1) WL.heap.size cu ⟨tl, tn⟩ l w (pre ++ [⟨⟨⟨xl, xn⟩, ⟨yl, yn⟩, mo, kd, ix⟩, hx⟩]) w8) := Lib.hid ⟨⟨_, hset, fun y => by
          rw [mem_delB, hS2, List.map_append, List.mem_append]
          simp only [List.map_cons, List.map_nil, List.mem_singleton]
          constructor
          · rintro ⟨⟨p1, p2⟩, p3⟩
            exact ⟨p1, fun h => h.elim p2 p3⟩
          · rintro ⟨p1, p2⟩
            exact ⟨⟨p1, fun h => p2 (.inl h)⟩, fun h => p2 (.inr h)⟩⟩, setM_row hgr hmat h1, setM_row hgr hmat h2, setM_row hgr hmat h3, Below.grown h5 hgr h5.size (fun q e => by cases e; have := HM0.out; omega), Nat.le_trans h6 hgr.size⟩
        have m0 := h1.cell (i := 0) rfl
        have b0 := hrx.cell (i := 0) rfl
        have b1 := hrx.cell (i := 1) rfl
        have b2 := hrx.cell (i := 2) rfl
        have b3 := hrx.cell (i := 3) rfl
        have b4 := hrx.cell (i := 4) rfl
        have b5 := hrx.cell (i := 5) rfl
        have b6 := hrx.cell (i := 6) rfl
        unfold bdA at hrun
        dsimp only at b0 b1 b2 b3 b4 b5 b6 hrun
        clear h0 hS2 h1 h2 h3 h5 h6 hset hgr hmat hrx hbw
        simp only [actB, List.setIfInBounds_toArray, List.set_cons_zero, List.set_cons_succ]
        unfold bdV
        gi_wp2_with fail
        exact ⟨HKF.out, HEV.out, HLI.out⟩
      case done =>
        rintro D ys W hD hys ⟨⟨S2, h0, hS2⟩, h1, h2, h3, h5, h6⟩ hK
        rw [hys] at hS2
        have HFA : Hid (S2 = [] ↔ ∀ b ∈ l, b ∈ bnds s) := Lib.hid (by
          constructor
          · intro e b hb
            by_cases hm : b ∈ bnds s
            · exact hm
            · have := (hS2 b).2 ⟨hb, hm⟩
              rw [e] at this
              cases this
          · intro h
            cases hS3 : S2 with
            | nil => rfl
            | cons y r =>
              have := (hS2 y).1 (by rw [hS3]; exact List.mem_cons_self ..)
              exact absurd (h y this.1) this.2)
        have hlen2 : ∀ ty, _ := fun ty => h0.len ty
        have f0 := h2.cell (i := 0) rfl
        have f1 := h2.cell (i := 1) rfl
        have t0 := h3.cell (i := 0) rfl
        have t1 := h3.cell (i := 1) rfl
        have m0 := h1.cell (i := 0) rfl
        have HK := Lib.hid hK
        have HND : Hid (New w (W.putObj D (.deferred none))) := Lib.hid (h5.trans (belowK_b (w := w) (Nat.le_refl _) W D _ _ (by have := HM0.out; have := HLT.out; have := HSZ.out; omega) hK rfl rfl))
        clear h0 hS2 h1 h2 h3 h5 h6 hK hys hD
        obtain ⟨cl, cn⟩ := cu
        dsimp only at f0 f1
        by_cases he1 : cl = tl
        · by_cases he2 : cn = tn
          · subst he1 he2
            cases hS3 : S2 with
            | nil =>
              rw [hS3] at hlen2
              have hall := HFA.out.1 hS3
              gi_wp2_with fail
              refine ⟨by simp, .inl ⟨_, _, rfl, run_takeDeferred HK.out, ?_⟩⟩
              refine ⟨_, results_tmp rfl _ _ _, ?_⟩; exact ⟨true, rfl, HND.out, ⟨fun _ => ⟨HLEN.out, HCF.out (by first | rfl | trivial), hall⟩, fun _ => rfl⟩⟩
            | cons y r =>
              rw [hS3] at hlen2
              have hz : (((y :: r).length : Int) == 0) = false := by simp; omega
              have hno : ¬LeadsP s l ⟨fl, fn⟩ ⟨cl, cn⟩ := fun h => by
                have := HFA.out.2 h.2.2
                rw [hS3] at this
                cases this
              generalize (y :: r).length = z at *
              gi_wp2_with fail
              refine ⟨by simp, .inl ⟨_, _, rfl, run_takeDeferred HK.out, ?_⟩⟩
              refine ⟨_, results_tmp rfl _ _ _, ?_⟩; exact ⟨false, rfl, HND.out, ⟨(fun h => by cases h), fun h => absurd h hno⟩⟩
          · subst he1
            have e2 : (cn == tn) = false := by simp [he2]
            have hno : ¬LeadsP s l ⟨fl, fn⟩ ⟨cl, tn⟩ := fun h => he2 (congrArg Rf.line (HCN.out h))
            gi_wp2_with fail
            refine ⟨by simp, .inl ⟨_, _, rfl, run_takeDeferred HK.out, ?_⟩⟩
            refine ⟨_, results_tmp rfl _ _ _, ?_⟩; exact ⟨false, rfl, HND.out, ⟨(fun h => by cases h), fun h => absurd h hno⟩⟩
        · have e1 : (cl == tl) = false := by simp [he1]
          have hno : ¬LeadsP s l ⟨fl, fn⟩ ⟨tl, tn⟩ := fun h => he1 (congrArg Rf.log (HCN.out h))
          gi_wp2_with fail
          refine ⟨by simp, .inl ⟨_, _, rfl, run_takeDeferred HK.out, ?_⟩⟩
          refine ⟨_, results_tmp rfl _ _ _, ?_⟩; exact ⟨false, rfl, HND.out, ⟨(fun h => by cases h), fun h => absurd h hno⟩⟩
end Go.Proofs.YtodmbcoobjcooaaDoor
