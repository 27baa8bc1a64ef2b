/-
  ClocksMore: with a further tie nothing becomes less sure. Condition: the variable beginning holds what the program's text lays.
-/
import Derived.Test.YtlhdhfhfdkldjaaDoorCkRel
import Derived.Test.YtlhdhfhfdkldjaaDoorCkAwake
import Derived.Test.YtlhdhfhfdkldjaaDoorCkOpen
import Derived.Deep.Upon
import Derived.Deep.AppendLies
namespace Go.Proofs.YtlhdhfhfdkldjaaDoor
open Go Go.RowKit Go.Shelf
open Go.ChangeShapes Go.WideShapes Go.ChangeAt Go.Deep
attribute [local go_sem] Oper.semAt_some
theorem tis_cells {w : World} {b off : Nat} {l : List Ti} (hc : ∀ i, i < l.length → TiC w b (off + i * 4) (l[i]?.getD default)) : ∀ j u, (tisV l)[j]? = some u → w.cell? ((⟨b, off, none⟩ : Addr).add j) = some u := by
  intro j u hu
  have hj : j < l.length * 4 := by
    have := (List.getElem?_eq_some_iff.1 hu).1
    rwa [tisV_len] at this
  obtain ⟨i, r, hr, rfl⟩ : ∃ i r, r < 4 ∧ j = i * 4 + r := ⟨j / 4, j % 4, Nat.mod_lt _ (by decide), by omega⟩
  have hi : i < l.length := by omega
  rw [tisV, fm_get tiCs 4 (fun _ => rfl) l i r hi hr] at hu
  have h := hc i hi
  rw [List.getElem?_eq_getElem hi] at h
  have hadd : (⟨b, off, none⟩ : Addr).add (i * 4 + r) = ⟨b, off + i * 4 + r, none⟩ := by
    unfold Addr.add
    split
    · rename_i h0
      have h1 : i * 4 + r = 0 := by simpa using h0
      simp <;> omega
    · simp <;> omega
  rw [hadd]
  rcases r with _ | _ | _ | _ | r
  · exact h.1.trans hu
  · exact h.2.1.trans hu
  · exact h.2.2.1.trans hu
  · exact h.2.2.2.trans hu
  · omega
theorem step_append_tis {ops : Array Oper} {o : Oper} {a : Act} {w : World} {K : Act → World → Prop} {Q : Exit → Act → World → Prop} {E : Prop} (hgd : o.guard = none) (s x : Operand)
    (ho : o.op = .call { callee := .builtin .append, args := #[s, x], argTypes := #[23, 23] }) (base g0 : Nat) (hs : a.eval s = .slice (some ⟨g0, 0, none⟩) 0 0)
    (hown : w.ownsRow base 79 4 (.slice (some ⟨g0, 0, none⟩) 0 0) 0 []) (D : Option Addr) (d : Nat) (l : List Ti) (hx : a.eval x = .slice D l.length d) (hD : TisA w D l) (hl : l.length ≤ 400) (hbase : base ≤ w.heap.size)
    (h : ∀ g cap w', w'.ownsRow base 79 4 (.slice (some ⟨g, 0, none⟩) l.length cap) l.length (tisV l) → w.grownBy w' (some g0) → K (a.put o.dst (.slice (some ⟨g, 0, none⟩) l.length cap)) w') :
    if Region.wanted o (yielded ops a.tmps) = true then Oper.wp Tryd.prog o a w K Q else E := by
  obtain ⟨i1, hi1, hy0, hy1, hy2⟩ := info_parts info_ti
  cases hll : l with
  | nil =>
    subst hll
    have hw : Region.wanted o (yielded ops a.tmps) = true := by simp [Region.wanted, hgd]
    rw [if_pos hw]
    have hsrc : Src Tryd.prog i1.size 23 (.slice D 0 d) 0 [] w := by
      cases D with
      | none => exact Src.ofNil w Tryd.underlying23 d
      | some ad => exact Src.ofSlice w Tryd.underlying23 ad 0 d [] (by simp) (fun j u h => by simp at h) (fun u h => by cases h)
    have hr := run_append_nothing (P := Tryd.prog) w 23 23 o.type 79 i1 Tryd.underlying23 hi1 (some ⟨g0, 0, none⟩) 0 0 (Nat.le_refl _) _ hsrc
    unfold Oper.wp execOp
    simp only [ho, resolve, invoke, builtin, Sem.run_bind, Sem.run_pure, Result.andThen_ok, List.map_toArray, List.map_cons, List.map_nil, hs, hx, List.length_nil, hr]
    exact h g0 0 w hown (World.grownBy.refl _ _)
  | cons t k =>
    have hpos : 0 < l.length := by rw [hll]; simp
    obtain ⟨b, off, rfl, hb, hc⟩ := hD.2 hpos
    refine step_append_lies _ hgd s x 23 ho base 79 i1 (.agg #[.int .i64 0, .int .i64 0, .int .i64 0, .int .i64 0]) 4 32 Tryd.underlying23 hi1 hy0 hy1 hy2 rfl (by decide) (.slice (some ⟨g0, 0, none⟩) 0 0) 0 [] hs hown ⟨b, off, none⟩ l.length d (tisV l) hx (tisV_len l) (tis_cells hc) (tisV_one l) hpos (by unfold maxLen; omega) (by omega) hbase _ rfl ?_
    intro g cap w' h1 h2 _ _
    rw [Nat.zero_add, List.nil_append] at h1
    rw [Nat.zero_add]
    exact h g cap w' h1 h2
theorem owns_set {w : World} {base : Nat} {e : TypeId} {size : Nat} {v : Value} {n : Nat} {xs : List Value} (h : w.ownsRow base e size v n xs) {B : Nat} {tN : TypeId} {cs : List Value} (hB : RowIs w B tN cs) (hne : e ≠ tN) (i : Nat) (u : Value) : (w.setCell ⟨B, i, none⟩ u).ownsRow base e size v n xs := by
  obtain ⟨h1, h2⟩ := h
  refine ⟨h1, ?_⟩
  rcases h2 with h2 | ⟨g, cap, cur, rfl, hb, hh, h3⟩
  · exact .inl h2
  · refine .inr ⟨g, cap, cur, rfl, hb, ?_, h3⟩
    have hgB : g ≠ B := fun e => by
      unfold RowIs at hB
      rw [← e, hh] at hB
      simp at hB
      exact hne hB.2
    rw [Below.heap_setCell w ⟨B, i, none⟩ u g hgB]
    exact hh
theorem must_more {s : Sy} {t : Ti} {a b : Rf} {m1 m2 : Bool} (h1 : MustP s a b m1 0) (h2 : MustP (moreS s t) a b m2 0) (h : m1 = true) : m2 = true := by
  obtain ⟨-, h1⟩ := h1
  obtain ⟨-, h2⟩ := h2
  obtain ⟨lo, hi, a1, a2, a3⟩ := h1 rfl
  obtain ⟨lo', hi', b1, b2, b3⟩ := h2 rfl
  have c1 := more_min (t := t) a1 b1
  have c2 := more_min (t := t) a2 b2
  obtain ⟨d1, d2⟩ := a3.1 h
  exact b3.2 ⟨by show -s.window ≤ lo'; omega, by show hi' ≤ s.window; omega⟩
theorem may_more {s : Sy} {t : Ti} {a b : Rf} {m1 m2 : Bool} (h1 : MayP s a b m1 0) (h2 : MayP (moreS s t) a b m2 0) (h : m2 = true) : m1 = true := by
  obtain ⟨-, h1⟩ := h1
  obtain ⟨-, h2⟩ := h2
  obtain ⟨lo, hi, a1, a2, a3⟩ := h1 rfl
  obtain ⟨lo', hi', b1, b2, b3⟩ := h2 rfl
  have c1 := more_min (t := t) a1 b1
  have c2 := more_min (t := t) a2 b2
  obtain ⟨d1, d2⟩ := b3.1 h
  have d1 : lo' ≤ s.window := d1
  have d2 : -s.window ≤ hi' := d2
  exact a3.2 ⟨by omega, by omega⟩
theorem more_len (s : Sy) (t : Ti) : (moreS s t).ties.length = s.ties.length + 1 := by simp [moreS]
theorem more_sys {w : World} {A : Option Addr} {s : Sy} {t : Ti} {base g cap : Nat} (h1 : TksA w A s.tracks) (h2 : w.ownsRow base 79 4 (.slice (some ⟨g, 0, none⟩) (s.ties.length + 1) cap) (s.ties.length + 1) (tisV s.ties ++ tiCs t)) : SysM w A (some ⟨g, 0, none⟩) (moreS s t) := by
  refine ⟨h1, ?_⟩
  have e : tisV (s.ties ++ [t]) = tisV s.ties ++ tiCs t := by unfold tisV; rw [List.flatMap_append]; simp
  rw [← e] at h2
  exact owns_tis h2
theorem more_Relation (s : Sy) (t : Ti) (A D : Option Addr) (c d : Nat) (w : World) (hM : SysM w A D (moreS s t)) (hbeg : BegA w) (a b : Rf) :
    Calls Tryd.prog 40 #[.agg #[.slice A s.tracks.length c, .slice D (s.ties.length + 1) d, .int .i64 s.window], .agg #[.int .i64 a.log, .int .i64 a.line], .agg #[.int .i64 b.log, .int .i64 b.line]] w fun e w' => ∃ lo hi er, e = .returned (.tuple #[.agg #[.int .i64 lo, .int .i64 hi], .int .i64 er]) ∧ New w w' ∧ AnsP (moreS s t) [a, b] (plc s a) (plc s b) lo hi er := by
  have h := ck_RelationG (moreS s t) A D c d w hM hbeg a b
  rw [more_len] at h
  exact h
theorem more_Interval (s : Sy) (t : Ti) (A D : Option Addr) (c d : Nat) (w : World) (hM : SysM w A D (moreS s t)) (hbeg : BegA w) (a : Rf) :
    Calls Tryd.prog 36 #[.agg #[.slice A s.tracks.length c, .slice D (s.ties.length + 1) d, .int .i64 s.window], .agg #[.int .i64 a.log, .int .i64 a.line]] w fun e w' => ∃ lo hi er, e = .returned (.tuple #[.agg #[.int .i64 lo, .int .i64 hi], .int .i64 er]) ∧ New w w' ∧ AnsP (moreS s t) [a] 0 (plc s a) lo hi er := by
  have h := ck_IntervalG (moreS s t) A D c d w hM hbeg a
  rw [more_len] at h
  exact h
theorem more_Must (s : Sy) (t : Ti) (A D : Option Addr) (c d : Nat) (w : World) (hM : SysM w A D (moreS s t)) (hbeg : BegA w) (a b : Rf) :
    Calls Tryd.prog 44 #[.agg #[.slice A s.tracks.length c, .slice D (s.ties.length + 1) d, .int .i64 s.window], .agg #[.int .i64 a.log, .int .i64 a.line], .agg #[.int .i64 b.log, .int .i64 b.line]] w fun e w' => ∃ m er, e = .returned (.tuple #[.bool m, .int .i64 er]) ∧ New w w' ∧ MustP (moreS s t) a b m er := by
  have h := ck_MustG (moreS s t) A D c d w hM hbeg a b
  rw [more_len] at h
  exact h
theorem more_May (s : Sy) (t : Ti) (A D : Option Addr) (c d : Nat) (w : World) (hM : SysM w A D (moreS s t)) (hbeg : BegA w) (a b : Rf) :
    Calls Tryd.prog 42 #[.agg #[.slice A s.tracks.length c, .slice D (s.ties.length + 1) d, .int .i64 s.window], .agg #[.int .i64 a.log, .int .i64 a.line], .agg #[.int .i64 b.log, .int .i64 b.line]] w fun e w' => ∃ m er, e = .returned (.tuple #[.bool m, .int .i64 er]) ∧ New w w' ∧ MayP (moreS s t) a b m er := by
  have h := ck_MayG (moreS s t) A D c d w hM hbeg a b
  rw [more_len] at h
  exact h
set_option maxRecDepth 100000 in
set_option maxHeartbeats 8000000 in
theorem law_more (s : Sy) (A D : Option Addr) (c d : Nat) (t : Ti) (a b : Rf) (w : World) (hM : SysM w A D s) (hbeg : BegA w) :
    Calls Tryd.prog 11 #[.agg #[.slice A s.tracks.length c, .slice D s.ties.length d, .int .i64 s.window], .agg #[.int .i64 t.a.log, .int .i64 t.a.line, .int .i64 t.b.log, .int .i64 t.b.line], .agg #[.int .i64 a.log, .int .i64 a.line], .agg #[.int .i64 b.log, .int .i64 b.line]] w fun e w' => e = .returned (.bool true) ∧ New w w' := by
  obtain ⟨⟨tl, tn⟩, ⟨sl, sn⟩⟩ := t
  obtain ⟨al, an⟩ := a
  obtain ⟨bl, bn⟩ := b
  dsimp only
  have n4 := ((((New.refl w).alloc (.cells #[.slice A s.tracks.length c, .slice D s.ties.length d, .int .i64 s.window] 25)).alloc (.cells #[.int .i64 tl, .int .i64 tn, .int .i64 sl, .int .i64 sn] 79)).alloc (.cells #[.int .i64 al, .int .i64 an] 53)).alloc (.cells #[.int .i64 bl, .int .i64 bn] 53)
  have r1 := (RowIs.new w 25 [.slice A s.tracks.length c, .slice D s.ties.length d, .int .i64 s.window]).keep ((((New.refl _).alloc (.cells #[.int .i64 tl, .int .i64 tn, .int .i64 sl, .int .i64 sn] 79)).alloc (.cells #[.int .i64 al, .int .i64 an] 53)).alloc (.cells #[.int .i64 bl, .int .i64 bn] 53))
  have r2 := (RowIs.new (w.alloc (.cells #[.slice A s.tracks.length c, .slice D s.ties.length d, .int .i64 s.window] 25)) 79 [.int .i64 tl, .int .i64 tn, .int .i64 sl, .int .i64 sn]).keep (((New.refl _).alloc (.cells #[.int .i64 al, .int .i64 an] 53)).alloc (.cells #[.int .i64 bl, .int .i64 bn] 53))
  have r3 := (RowIs.new ((w.alloc (.cells #[.slice A s.tracks.length c, .slice D s.ties.length d, .int .i64 s.window] 25)).alloc (.cells #[.int .i64 tl, .int .i64 tn, .int .i64 sl, .int .i64 sn] 79)) 53 [.int .i64 al, .int .i64 an]).keep ((New.refl _).alloc (.cells #[.int .i64 bl, .int .i64 bn] 53))
  have r4 := RowIs.new (((w.alloc (.cells #[.slice A s.tracks.length c, .slice D s.ties.length d, .int .i64 s.window] 25)).alloc (.cells #[.int .i64 tl, .int .i64 tn, .int .i64 sl, .int .i64 sn] 79)).alloc (.cells #[.int .i64 al, .int .i64 an] 53)) 53 [.int .i64 bl, .int .i64 bn]
  simp only [World.size_alloc] at r2 r3 r4
  have HR1 := Lib.hid r1
  have HR2 := Lib.hid r2
  have HR3 := Lib.hid r3
  have HR4 := Lib.hid r4
  have HN := Lib.hid n4
  have HAW := Lib.hid (law_awake _ ⟨n4.cellOf hbeg.1, n4.cellOf hbeg.2⟩)
  have HFW : Hid (∀ w', New w w' → _) := Lib.hid fun w' h => law_few s A D c d w' (hM.keep h)
  have HM := Lib.hid hM
  have HB := Lib.hid hbeg
  have hlen := hM.2.1
  clear hM hbeg n4 r1 r2 r3 r4
  have c0 := HR1.out.cell (i := 0) rfl
  have c1 := HR1.out.cell (i := 1) rfl
  have c2 := HR1.out.cell (i := 2) rfl
  go_enter Tryd.func11, Tryd.ntmps11
  go_wp2_with fail
  refine HAW.out.mono ?_
  rintro e w1 ⟨rfl, m1⟩
  have HN1 := Lib.hid (HN.out.trans m1)
  have HA1 := Lib.hid (HR1.out.keep m1)
  have HA2 := Lib.hid (HR2.out.keep m1)
  have HA3 := Lib.hid (HR3.out.keep m1)
  have HA4 := Lib.hid (HR4.out.keep m1)
  clear c0 c1 c2 m1 HR1 HR2 HR3 HR4 HAW
  have c0 := HA1.out.cell (i := 0) rfl
  have c1 := HA1.out.cell (i := 1) rfl
  have c2 := HA1.out.cell (i := 2) rfl
  go_wp2_with fail
  refine (HFW.out _ HN1.out).mono ?_
  rintro e w2 ⟨⟨fb, rfl⟩, m2⟩
  have HN2 := Lib.hid (HN1.out.trans m2)
  have HB1 := Lib.hid (HA1.out.keep m2)
  have HB2 := Lib.hid (HA2.out.keep m2)
  have HB3 := Lib.hid (HA3.out.keep m2)
  have HB4 := Lib.hid (HA4.out.keep m2)
  clear c0 c1 c2 m2 HA1 HA2 HA3 HA4 HFW
  have c0 := HB1.out.cell (i := 0) rfl
  have c1 := HB1.out.cell (i := 1) rfl
  have c2 := HB1.out.cell (i := 2) rfl
  cases fb with
  | false =>
    go_wp2_with fail
    go_ret
    exact ⟨rfl, HN2.out⟩
  | true =>
  by_cases h30 : 30 < s.ties.length
  · have h30' : decide (30 < (s.ties.length : Int)) = true := by simp; omega
    go_wp2_with fail
    go_ret
    exact ⟨rfl, HN2.out⟩
  have h30' : decide (30 < (s.ties.length : Int)) = false := by simp; omega
  go_wp2_with fail
  clear c0 c1 c2
  have k2 := (New.refl w2).alloc (.cells #[.slice A s.tracks.length c, .slice D s.ties.length d, .int .i64 s.window] 25)
  have HC1 := Lib.hid (HB1.out.keep k2)
  have HC2 := Lib.hid (HB2.out.keep k2)
  have HC3 := Lib.hid (HB3.out.keep k2)
  have HC4 := Lib.hid (HB4.out.keep k2)
  have HX := Lib.hid (RowIs.new w2 25 [.slice A s.tracks.length c, .slice D s.ties.length d, .int .i64 s.window])
  have HN3 := Lib.hid (HN2.out.trans k2)
  have hsz : (w2.alloc (.cells #[.slice A s.tracks.length c, .slice D s.ties.length d, .int .i64 s.window] 25)).heap.size = w2.heap.size + 1 := World.size_alloc _ _
  clear k2
  generalize hP : w2.alloc (.cells #[.slice A s.tracks.length c, .slice D s.ties.length d, .int .i64 s.window] 25) = P at *
  have HSD : Hid (∀ w', New P w' → (w'.cell? ⟨w.heap.size, 1, none⟩ = some (.slice D s.ties.length d) ∧ w'.cell? ⟨w2.heap.size, 1, none⟩ = some (.slice D s.ties.length d)) ∧ w'.cell? ⟨w.heap.size + 1, 0, none⟩ = some (.int .i64 tl) ∧ w'.cell? ⟨w.heap.size + 1, 1, none⟩ = some (.int .i64 tn) ∧ w'.cell? ⟨w.heap.size + 1, 2, none⟩ = some (.int .i64 sl) ∧ w'.cell? ⟨w.heap.size + 1, 3, none⟩ = some (.int .i64 sn)) := Lib.hid fun w' h => ⟨⟨(HC1.out.keep h).cell rfl, (HX.out.keep h).cell rfl⟩, (HC2.out.keep h).cell rfl, (HC2.out.keep h).cell rfl, (HC2.out.keep h).cell rfl, (HC2.out.keep h).cell rfl⟩
  have HTI : Hid (∀ w', New P w' → TisA w' D s.ties) := Lib.hid fun w' h => (HM.out.keep (HN3.out.trans h)).2
  refine region_plain (by kernel_rfl) (wpAny_lastL (S := fun w' => (w'.cell? ⟨w.heap.size, 1, none⟩ = some (.slice D s.ties.length d) ∧ w'.cell? ⟨w2.heap.size, 1, none⟩ = some (.slice D s.ties.length d)) ∧ w'.cell? ⟨w.heap.size + 1, 0, none⟩ = some (.int .i64 tl) ∧ w'.cell? ⟨w.heap.size + 1, 1, none⟩ = some (.int .i64 tn) ∧ w'.cell? ⟨w.heap.size + 1, 2, none⟩ = some (.int .i64 sl) ∧ w'.cell? ⟨w.heap.size + 1, 3, none⟩ = some (.int .i64 sn)) rfl (by kernel_rfl) (by kernel_rfl) (by kernel_rfl) ?_)
  simp only [List.dropLast, List.length_cons, List.length_nil, Nat.reduceAdd]
  change wpAnyH _ _ _ _ _ _ _ _ P.drew
  have hS := HSD.out P.drew (New.refl P).drew
  refine wpAnyH_take (i := 1) (v := ?_) rfl (by kernel_rfl) (by kernel_rfl) (by kernel_rfl) (fun _ _ _ h => h) (Or.inl ⟨by rfl, fun w' hS' => ?_⟩) hS ?_
  rotate_left
  · obtain ⟨⟨s0, s1⟩, s2, s3, s4, s5⟩ := hS'
    go_simp
    try rfl
  try simp only [List.getElem_toArray, List.getElem_cons_zero, List.getElem_cons_succ, Act.put, List.setIfInBounds_toArray, List.set_cons_zero, List.set_cons_succ]
  refine wpAnyH_take (i := 2) (v := ?_) rfl (by kernel_rfl) (by kernel_rfl) (by kernel_rfl) (fun _ _ _ h => h) (Or.inl ⟨by rfl, fun w' hS' => ?_⟩) hS ?_
  rotate_left
  · obtain ⟨⟨s0, s1⟩, s2, s3, s4, s5⟩ := hS'
    go_simp
    try rfl
  try simp only [List.getElem_toArray, List.getElem_cons_zero, List.getElem_cons_succ, Act.put, List.setIfInBounds_toArray, List.set_cons_zero, List.set_cons_succ]
  refine wpAnyH_take (i := 4) (v := ?_) rfl (by kernel_rfl) (by kernel_rfl) (by kernel_rfl) (fun _ _ _ h => h) (Or.inl ⟨by rfl, fun w' hS' => ?_⟩) hS ?_
  rotate_left
  · obtain ⟨⟨s0, s1⟩, s2, s3, s4, s5⟩ := hS'
    go_simp
    try rfl
  try simp only [List.getElem_toArray, List.getElem_cons_zero, List.getElem_cons_succ, Act.put, List.setIfInBounds_toArray, List.set_cons_zero, List.set_cons_succ]
  clear hS
  have h400 : s.ties.length ≤ 400 := by omega
  obtain ⟨i1, hi1, hy0, hy1, hy2⟩ := info_parts info_ti
  refine wpAnyH_ready (rs := [0, 5]) (by kernel_rfl) (by simp) ?_
  refine AllReadyH.cons rfl (fun K hK => ?_) (AllReadyH.cons rfl (fun K hK => ?_) AllReadyH.nil)
  have nX : New P (P.alloc (.cells #[] 79)).drew := ((New.refl P).alloc (.cells #[] 79)).drew
  have oX : (P.alloc (.cells #[] 79)).drew.ownsRow P.heap.size 79 4 (.slice (some ⟨w2.heap.size + 1, 0, none⟩) 0 0) 0 [] := by
    rw [← hsz]
    exact World.ownsRow_made P #[] 0 (Nat.le_refl _) (Nat.zero_le _) rfl
  go_simp
  refine hK.out _ _ (HSD.out _ nX) (fun hS => ?_)
  generalize (P.alloc (.cells #[] 79)).drew = X1 at *
  clear hK K hS
  try simp only [List.getElem_toArray, List.getElem_cons_zero, List.getElem_cons_succ, Act.put, List.setIfInBounds_toArray, List.set_cons_zero, List.set_cons_succ]
  refine wpAnyH_ready (rs := [3, 5]) (by kernel_rfl) (by simp) ?_
  refine AllReadyH.cons rfl (fun K hK => ?_) (AllReadyH.cons rfl (fun K hK => ?_) AllReadyH.nil)
  refine step_append_tis rfl (.tmp 39) (.tmp 41) rfl P.heap.size (w2.heap.size + 1) rfl oX D d s.ties rfl (HTI.out _ nX) h400 nX.size ?_
  intro g1 cap1 X2 o1 hgw
  have n2 : New P X2 := New.of (Below.trans nX (grown_below oX hgw nX.size))
  refine hK.out _ _ (HSD.out _ n2) (fun hS => ?_)
  clear hK K hS
  try simp only [List.getElem_toArray, List.getElem_cons_zero, List.getElem_cons_succ, Act.put, List.setIfInBounds_toArray, List.set_cons_zero, List.set_cons_succ]
  refine wpAnyH_ready (rs := [5]) (by kernel_rfl) (by simp) ?_
  refine AllReadyH.cons rfl (fun K hK => ?_) AllReadyH.nil
  have n3 : New P (X2.alloc (.cells #[.int .i64 tl, .int .i64 tn, .int .i64 sl, .int .i64 sn] 79)) := n2.alloc (.cells #[.int .i64 tl, .int .i64 tn, .int .i64 sl, .int .i64 sn] 79)
  have rT : RowIs (X2.alloc (.cells #[.int .i64 tl, .int .i64 tn, .int .i64 sl, .int .i64 sn] 79)) X2.heap.size 79 [.int .i64 tl, .int .i64 tn, .int .i64 sl, .int .i64 sn] := RowIs.new X2 79 [.int .i64 tl, .int .i64 tn, .int .i64 sl, .int .i64 sn]
  go_simp
  refine hK.out _ _ (HSD.out _ n3) (fun hS => ?_)
  clear hK K hS
  try simp only [List.getElem_toArray, List.getElem_cons_zero, List.getElem_cons_succ, Act.put, List.setIfInBounds_toArray, List.set_cons_zero, List.set_cons_succ]
  have o3 := owns_keep o1 ((New.refl X2).alloc (.cells #[.int .i64 tl, .int .i64 tn, .int .i64 sl, .int .i64 sn] 79))
  refine wpAnyH_ready (rs := [6]) (by kernel_rfl) (by simp) ?_
  refine AllReadyH.cons rfl (fun K hK => ?_) AllReadyH.nil
  refine step_append_lies _ rfl (.tmp 42) (.tmp 44) 23 rfl P.heap.size 79 i1 (.agg #[.int .i64 0, .int .i64 0, .int .i64 0, .int .i64 0]) 4 32 Tryd.underlying23 hi1 hy0 hy1 hy2 rfl (by decide) (.slice (some ⟨g1, 0, none⟩) s.ties.length cap1) s.ties.length (tisV s.ties) rfl o3 ⟨X2.heap.size, 0, none⟩ 1 1 [.int .i64 tl, .int .i64 tn, .int .i64 sl, .int .i64 sn] rfl rfl (World.news_of_block (cs := #[.int .i64 tl, .int .i64 tn, .int .i64 sl, .int .i64 sn]) rT) (by simp [Value.oneCell']) (by decide) (by unfold maxLen; omega) (by omega) n3.size _ rfl ?_
  intro g2 cap2 X5 o2 hgw2 _ _
  have n5 : New P X5 := New.of (Below.trans n3 (grown_below o3 hgw2 n3.size))
  refine hK.out _ _ (HSD.out _ n5) (fun hS => ?_)
  clear hK K
  try simp only [List.getElem_toArray, List.getElem_cons_zero, List.getElem_cons_succ, Act.put, List.setIfInBounds_toArray, List.set_cons_zero, List.set_cons_succ]
  clear oX nX o1 hgw hgw2 n2 n3 rT o3
  rotate_left
  have n2 : New P (X1.alloc (.cells #[.int .i64 tl, .int .i64 tn, .int .i64 sl, .int .i64 sn] 79)) := nX.alloc (.cells #[.int .i64 tl, .int .i64 tn, .int .i64 sl, .int .i64 sn] 79)
  have rT : RowIs (X1.alloc (.cells #[.int .i64 tl, .int .i64 tn, .int .i64 sl, .int .i64 sn] 79)) X1.heap.size 79 [.int .i64 tl, .int .i64 tn, .int .i64 sl, .int .i64 sn] := RowIs.new X1 79 [.int .i64 tl, .int .i64 tn, .int .i64 sl, .int .i64 sn]
  go_simp
  refine hK.out _ _ (HSD.out _ n2) (fun hS => ?_)
  clear hK K hS
  try simp only [List.getElem_toArray, List.getElem_cons_zero, List.getElem_cons_succ, Act.put, List.setIfInBounds_toArray, List.set_cons_zero, List.set_cons_succ]
  have o0 := owns_keep oX ((New.refl X1).alloc (.cells #[.int .i64 tl, .int .i64 tn, .int .i64 sl, .int .i64 sn] 79))
  have hgl : w2.heap.size + 1 < X1.heap.size := (oX.lt _ rfl).2
  generalize hX2 : X1.alloc (.cells #[.int .i64 tl, .int .i64 tn, .int .i64 sl, .int .i64 sn] 79) = X2 at *
  refine wpAnyH_ready (rs := [3]) (by kernel_rfl) (by simp) ?_
  refine AllReadyH.cons rfl (fun K hK => ?_) AllReadyH.nil
  refine step_append_tis rfl (.tmp 39) (.tmp 41) rfl P.heap.size (w2.heap.size + 1) rfl o0 D d s.ties rfl (HTI.out _ n2) h400 n2.size ?_
  intro g1 cap1 X3 o1 hgw
  have n3 : New P X3 := New.of (Below.trans n2 (grown_below o0 hgw n2.size))
  have rT3 := rT.grown hgw (by simp; omega)
  refine hK.out _ _ (HSD.out _ n3) (fun hS => ?_)
  clear hK K hS
  try simp only [List.getElem_toArray, List.getElem_cons_zero, List.getElem_cons_succ, Act.put, List.setIfInBounds_toArray, List.set_cons_zero, List.set_cons_succ]
  refine wpAnyH_ready (rs := [6]) (by kernel_rfl) (by simp) ?_
  refine AllReadyH.cons rfl (fun K hK => ?_) AllReadyH.nil
  refine step_append_lies _ rfl (.tmp 42) (.tmp 44) 23 rfl P.heap.size 79 i1 (.agg #[.int .i64 0, .int .i64 0, .int .i64 0, .int .i64 0]) 4 32 Tryd.underlying23 hi1 hy0 hy1 hy2 rfl (by decide) (.slice (some ⟨g1, 0, none⟩) s.ties.length cap1) s.ties.length (tisV s.ties) rfl o1 ⟨X1.heap.size, 0, none⟩ 1 1 [.int .i64 tl, .int .i64 tn, .int .i64 sl, .int .i64 sn] rfl rfl (World.news_of_block (cs := #[.int .i64 tl, .int .i64 tn, .int .i64 sl, .int .i64 sn]) rT3) (by simp [Value.oneCell']) (by decide) (by unfold maxLen; omega) (by omega) n3.size _ rfl ?_
  intro g2 cap2 X5 o2 hgw2 _ _
  have n5 : New P X5 := New.of (Below.trans n3 (grown_below o1 hgw2 n3.size))
  refine hK.out _ _ (HSD.out _ n5) (fun hS => ?_)
  clear hK K
  try simp only [List.getElem_toArray, List.getElem_cons_zero, List.getElem_cons_succ, Act.put, List.setIfInBounds_toArray, List.set_cons_zero, List.set_cons_succ]
  clear oX nX o1 hgw hgw2 n2 n3 rT rT3 o0 hgl hX2
  rotate_left
  have nX : New P (P.alloc (.cells #[.int .i64 tl, .int .i64 tn, .int .i64 sl, .int .i64 sn] 79)).drew := ((New.refl P).alloc (.cells #[.int .i64 tl, .int .i64 tn, .int .i64 sl, .int .i64 sn] 79)).drew
  have rT : RowIs (P.alloc (.cells #[.int .i64 tl, .int .i64 tn, .int .i64 sl, .int .i64 sn] 79)).drew P.heap.size 79 [.int .i64 tl, .int .i64 tn, .int .i64 sl, .int .i64 sn] := RowIs.new P 79 [.int .i64 tl, .int .i64 tn, .int .i64 sl, .int .i64 sn]
  rw [hsz] at rT
  go_simp
  refine hK.out _ _ (HSD.out _ nX) (fun hS => ?_)
  generalize (P.alloc (.cells #[.int .i64 tl, .int .i64 tn, .int .i64 sl, .int .i64 sn] 79)).drew = X1 at *
  clear hK K hS
  try simp only [List.getElem_toArray, List.getElem_cons_zero, List.getElem_cons_succ, Act.put, List.setIfInBounds_toArray, List.set_cons_zero, List.set_cons_succ]
  refine wpAnyH_ready (rs := [0]) (by kernel_rfl) (by simp) ?_
  refine AllReadyH.cons rfl (fun K hK => ?_) AllReadyH.nil
  have n2 : New P (X1.alloc (.cells #[] 79)) := nX.alloc (.cells #[] 79)
  have o0 : (X1.alloc (.cells #[] 79)).ownsRow P.heap.size 79 4 (.slice (some ⟨X1.heap.size, 0, none⟩) 0 0) 0 [] := World.ownsRow_made X1 #[] 0 nX.size (Nat.zero_le _) rfl
  have rT2 := rT.keep ((New.refl X1).alloc (.cells #[] 79))
  have hgl := rT.lt
  go_simp
  refine hK.out _ _ (HSD.out _ n2) (fun hS => ?_)
  generalize hX2 : X1.alloc (.cells #[] 79) = X2 at *
  clear hK K hS
  try simp only [List.getElem_toArray, List.getElem_cons_zero, List.getElem_cons_succ, Act.put, List.setIfInBounds_toArray, List.set_cons_zero, List.set_cons_succ]
  refine wpAnyH_ready (rs := [3]) (by kernel_rfl) (by simp) ?_
  refine AllReadyH.cons rfl (fun K hK => ?_) AllReadyH.nil
  refine step_append_tis rfl (.tmp 39) (.tmp 41) rfl P.heap.size X1.heap.size rfl o0 D d s.ties rfl (HTI.out _ n2) h400 n2.size ?_
  intro g1 cap1 X3 o1 hgw
  have n3 : New P X3 := New.of (Below.trans n2 (grown_below o0 hgw n2.size))
  have rT3 := rT2.grown hgw (by simp; omega)
  refine hK.out _ _ (HSD.out _ n3) (fun hS => ?_)
  clear hK K hS
  try simp only [List.getElem_toArray, List.getElem_cons_zero, List.getElem_cons_succ, Act.put, List.setIfInBounds_toArray, List.set_cons_zero, List.set_cons_succ]
  refine wpAnyH_ready (rs := [6]) (by kernel_rfl) (by simp) ?_
  refine AllReadyH.cons rfl (fun K hK => ?_) AllReadyH.nil
  refine step_append_lies _ rfl (.tmp 42) (.tmp 44) 23 rfl P.heap.size 79 i1 (.agg #[.int .i64 0, .int .i64 0, .int .i64 0, .int .i64 0]) 4 32 Tryd.underlying23 hi1 hy0 hy1 hy2 rfl (by decide) (.slice (some ⟨g1, 0, none⟩) s.ties.length cap1) s.ties.length (tisV s.ties) rfl o1 ⟨(w2.heap.size + 1), 0, none⟩ 1 1 [.int .i64 tl, .int .i64 tn, .int .i64 sl, .int .i64 sn] rfl rfl (World.news_of_block (cs := #[.int .i64 tl, .int .i64 tn, .int .i64 sl, .int .i64 sn]) rT3) (by simp [Value.oneCell']) (by decide) (by unfold maxLen; omega) (by omega) n3.size _ rfl ?_
  intro g2 cap2 X5 o2 hgw2 _ _
  have n5 : New P X5 := New.of (Below.trans n3 (grown_below o1 hgw2 n3.size))
  refine hK.out _ _ (HSD.out _ n5) (fun hS => ?_)
  clear hK K
  try simp only [List.getElem_toArray, List.getElem_cons_zero, List.getElem_cons_succ, Act.put, List.setIfInBounds_toArray, List.set_cons_zero, List.set_cons_succ]
  clear nX o1 hgw hgw2 n2 n3 rT rT2 rT3 o0 hgl hX2
  rotate_left
  all_goals
    refine wpAnyH_take (i := 7) (v := ?_) rfl (by kernel_rfl) (by kernel_rfl) (by kernel_rfl) (fun _ _ _ h => h) (Or.inl ⟨by rfl, fun w' hS' => ?_⟩) hS ?_
    rotate_left
    · obtain ⟨⟨s0, s1⟩, s2, s3, s4, s5⟩ := hS'
      go_simp
      try rfl
    try simp only [List.getElem_toArray, List.getElem_cons_zero, List.getElem_cons_succ, Act.put, List.setIfInBounds_toArray, List.set_cons_zero, List.set_cons_succ]
    refine wpAnyH_done (by kernel_rfl) ?_ _
    clear hS
    have HY := Lib.hid (HX.out.keep n5)
    have x1 := HY.out.cell (i := 1) rfl
    have xf := HY.out.free 1
    unfold LastQ NormQ
    go_simp
    have hq1 := HB1.out.lt
    have hq3 := HB3.out.lt
    have hq4 := HB4.out.lt
    have HN6 : Hid (New w (X5.setCell ⟨w2.heap.size, 1, none⟩ (.slice (some ⟨g2, 0, none⟩) (s.ties.length + 1) cap2))) := Lib.hid ((HN3.out.trans n5).setCell (by show w.heap.size ≤ w2.heap.size; omega) _)
    have HD1 := Lib.hid ((HC1.out.keep n5).other (k := w2.heap.size) (by omega) 1 (.slice (some ⟨g2, 0, none⟩) (s.ties.length + 1) cap2))
    have HD3 := Lib.hid ((HC3.out.keep n5).other (k := w2.heap.size) (by omega) 1 (.slice (some ⟨g2, 0, none⟩) (s.ties.length + 1) cap2))
    have HD4 := Lib.hid ((HC4.out.keep n5).other (k := w2.heap.size) (by omega) 1 (.slice (some ⟨g2, 0, none⟩) (s.ties.length + 1) cap2))
    have HE1 : Hid (RowIs (X5.setCell ⟨w2.heap.size, 1, none⟩ (.slice (some ⟨g2, 0, none⟩) (s.ties.length + 1) cap2)) w2.heap.size 25 [.slice A s.tracks.length c, .slice (some ⟨g2, 0, none⟩) (s.ties.length + 1) cap2, .int .i64 s.window]) := Lib.hid (HY.out.put 1 (.slice (some ⟨g2, 0, none⟩) (s.ties.length + 1) cap2))
    have HM6 : Hid (SysM (X5.setCell ⟨w2.heap.size, 1, none⟩ (.slice (some ⟨g2, 0, none⟩) (s.ties.length + 1) cap2)) A (some ⟨g2, 0, none⟩) (moreS s ⟨⟨tl, tn⟩, ⟨sl, sn⟩⟩)) := Lib.hid (more_sys (HM.out.keep HN6.out).1 (owns_set o2 HY.out (by decide) 1 (.slice (some ⟨g2, 0, none⟩) (s.ties.length + 1) cap2)))
    clear x1 xf HY n5 o2 HTI HSD HC1 HC2 HC3 HC4 HX HB1 HB2 HB3 HB4 HN3 HN2 HN1 HN hq1 hq3 hq4
    generalize X5.setCell ⟨w2.heap.size, 1, none⟩ (.slice (some ⟨g2, 0, none⟩) (s.ties.length + 1) cap2) = W6 at *
    have HRelation1 : Hid (∀ w' (x y : Rf), New W6 w' → _) := Lib.hid fun w' x y h => ck_RelationG s A D c d w' ((HM.out.keep HN6.out).keep h) ⟨(HN6.out.trans h).cellOf HB.out.1, (HN6.out.trans h).cellOf HB.out.2⟩ x y
    have HRelation2 : Hid (∀ w' (x y : Rf), New W6 w' → _) := Lib.hid fun w' x y h => more_Relation s ⟨⟨tl, tn⟩, ⟨sl, sn⟩⟩ A (some ⟨g2, 0, none⟩) c cap2 w' (HM6.out.keep h) ⟨(HN6.out.trans h).cellOf HB.out.1, (HN6.out.trans h).cellOf HB.out.2⟩ x y
    have HInterval1 : Hid (∀ w' (x : Rf), New W6 w' → _) := Lib.hid fun w' x h => ck_IntervalG s A D c d w' ((HM.out.keep HN6.out).keep h) ⟨(HN6.out.trans h).cellOf HB.out.1, (HN6.out.trans h).cellOf HB.out.2⟩ x
    have HInterval2 : Hid (∀ w' (x : Rf), New W6 w' → _) := Lib.hid fun w' x h => more_Interval s ⟨⟨tl, tn⟩, ⟨sl, sn⟩⟩ A (some ⟨g2, 0, none⟩) c cap2 w' (HM6.out.keep h) ⟨(HN6.out.trans h).cellOf HB.out.1, (HN6.out.trans h).cellOf HB.out.2⟩ x
    have HMust1 : Hid (∀ w' (x y : Rf), New W6 w' → _) := Lib.hid fun w' x y h => ck_MustG s A D c d w' ((HM.out.keep HN6.out).keep h) ⟨(HN6.out.trans h).cellOf HB.out.1, (HN6.out.trans h).cellOf HB.out.2⟩ x y
    have HMust2 : Hid (∀ w' (x y : Rf), New W6 w' → _) := Lib.hid fun w' x y h => more_Must s ⟨⟨tl, tn⟩, ⟨sl, sn⟩⟩ A (some ⟨g2, 0, none⟩) c cap2 w' (HM6.out.keep h) ⟨(HN6.out.trans h).cellOf HB.out.1, (HN6.out.trans h).cellOf HB.out.2⟩ x y
    have HMay1 : Hid (∀ w' (x y : Rf), New W6 w' → _) := Lib.hid fun w' x y h => ck_MayG s A D c d w' ((HM.out.keep HN6.out).keep h) ⟨(HN6.out.trans h).cellOf HB.out.1, (HN6.out.trans h).cellOf HB.out.2⟩ x y
    have HMay2 : Hid (∀ w' (x y : Rf), New W6 w' → _) := Lib.hid fun w' x y h => more_May s ⟨⟨tl, tn⟩, ⟨sl, sn⟩⟩ A (some ⟨g2, 0, none⟩) c cap2 w' (HM6.out.keep h) ⟨(HN6.out.trans h).cellOf HB.out.1, (HN6.out.trans h).cellOf HB.out.2⟩ x y
    have c0 := HD1.out.cell (i := 0) rfl
    have c1 := HD1.out.cell (i := 1) rfl
    have c2 := HD1.out.cell (i := 2) rfl
    have x0 := HD3.out.cell (i := 0) rfl
    have x1 := HD3.out.cell (i := 1) rfl
    have q0 := HD1.out.lt
    have q1 := HE1.out.lt
    have q2 := HD3.out.lt
    have q3 := HD4.out.lt
    go_wp2_with fail
    refine (HInterval1.out _ ⟨al, an⟩ (New.refl W6)).mono ?_
    rintro e w7 ⟨xl, xh, e1, rfl, m7, hx⟩
    have HQ7 : Hid (New W6 w7) := Lib.hid (((New.refl W6)).trans m7)
    have Rs7 := Lib.hid (HD1.out.keep m7)
    have Rx7 := Lib.hid (HE1.out.keep m7)
    have Ra7 := Lib.hid (HD3.out.keep m7)
    have Rb7 := Lib.hid (HD4.out.keep m7)
    have Ax := Lib.hid hx
    clear c0 c1 c2 x0 x1 q0 q1 q2 q3 m7 hx HD1 HE1 HD3 HD4
    have c0 := Rx7.out.cell (i := 0) rfl
    have c1 := Rx7.out.cell (i := 1) rfl
    have c2 := Rx7.out.cell (i := 2) rfl
    have x0 := Ra7.out.cell (i := 0) rfl
    have x1 := Ra7.out.cell (i := 1) rfl
    have q0 := Rs7.out.lt
    have q1 := Rx7.out.lt
    have q2 := Ra7.out.lt
    have q3 := Rb7.out.lt
    go_wp2_with fail
    refine (HInterval2.out _ ⟨al, an⟩ (HQ7.out.alloc _)).mono ?_
    rintro e w8 ⟨yl, yh, e2, rfl, m8, hy⟩
    have HQ8 : Hid (New W6 w8) := Lib.hid (((HQ7.out.alloc _)).trans m8)
    have Rs8 := Lib.hid (Rs7.out.keep (((New.refl _).alloc _).trans m8))
    have Rx8 := Lib.hid (Rx7.out.keep (((New.refl _).alloc _).trans m8))
    have Ra8 := Lib.hid (Ra7.out.keep (((New.refl _).alloc _).trans m8))
    have Rb8 := Lib.hid (Rb7.out.keep (((New.refl _).alloc _).trans m8))
    have Kx8 := Lib.hid ((RowIs.new w7 55 [.int .i64 xl, .int .i64 xh]).keep m8)
    have Ay := Lib.hid hy
    clear c0 c1 c2 x0 x1 q0 q1 q2 q3 m8 hy Rs7 Rx7 Ra7 Rb7
    have c0 := Rs8.out.cell (i := 0) rfl
    have c1 := Rs8.out.cell (i := 1) rfl
    have c2 := Rs8.out.cell (i := 2) rfl
    have x0 := Ra8.out.cell (i := 0) rfl
    have x1 := Ra8.out.cell (i := 1) rfl
    have y0 := Rb8.out.cell (i := 0) rfl
    have y1 := Rb8.out.cell (i := 1) rfl
    have q0 := Rs8.out.lt
    have q1 := Rx8.out.lt
    have q2 := Ra8.out.lt
    have q3 := Rb8.out.lt
    go_wp2_with fail
    refine (HRelation1.out _ ⟨al, an⟩ ⟨bl, bn⟩ (HQ8.out.alloc _)).mono ?_
    rintro e w9 ⟨ml, mh, e3, rfl, m9, hm⟩
    have HQ9 : Hid (New W6 w9) := Lib.hid (((HQ8.out.alloc _)).trans m9)
    have Rs9 := Lib.hid (Rs8.out.keep (((New.refl _).alloc _).trans m9))
    have Rx9 := Lib.hid (Rx8.out.keep (((New.refl _).alloc _).trans m9))
    have Ra9 := Lib.hid (Ra8.out.keep (((New.refl _).alloc _).trans m9))
    have Rb9 := Lib.hid (Rb8.out.keep (((New.refl _).alloc _).trans m9))
    have Kx9 := Lib.hid (Kx8.out.keep (((New.refl _).alloc _).trans m9))
    have Ky9 := Lib.hid ((RowIs.new w8 55 [.int .i64 yl, .int .i64 yh]).keep m9)
    have Am := Lib.hid hm
    clear c0 c1 c2 x0 x1 y0 y1 q0 q1 q2 q3 m9 hm Rs8 Rx8 Ra8 Rb8 Kx8
    have c0 := Rx9.out.cell (i := 0) rfl
    have c1 := Rx9.out.cell (i := 1) rfl
    have c2 := Rx9.out.cell (i := 2) rfl
    have x0 := Ra9.out.cell (i := 0) rfl
    have x1 := Ra9.out.cell (i := 1) rfl
    have y0 := Rb9.out.cell (i := 0) rfl
    have y1 := Rb9.out.cell (i := 1) rfl
    have q0 := Rs9.out.lt
    have q1 := Rx9.out.lt
    have q2 := Ra9.out.lt
    have q3 := Rb9.out.lt
    go_wp2_with fail
    refine (HRelation2.out _ ⟨al, an⟩ ⟨bl, bn⟩ (HQ9.out.alloc _)).mono ?_
    rintro e w10 ⟨nl, nh, e4, rfl, m10, hn⟩
    have HQ10 : Hid (New W6 w10) := Lib.hid (((HQ9.out.alloc _)).trans m10)
    have Rs10 := Lib.hid (Rs9.out.keep (((New.refl _).alloc _).trans m10))
    have Rx10 := Lib.hid (Rx9.out.keep (((New.refl _).alloc _).trans m10))
    have Ra10 := Lib.hid (Ra9.out.keep (((New.refl _).alloc _).trans m10))
    have Rb10 := Lib.hid (Rb9.out.keep (((New.refl _).alloc _).trans m10))
    have Kx10 := Lib.hid (Kx9.out.keep (((New.refl _).alloc _).trans m10))
    have Ky10 := Lib.hid (Ky9.out.keep (((New.refl _).alloc _).trans m10))
    have Km10 := Lib.hid ((RowIs.new w9 55 [.int .i64 ml, .int .i64 mh]).keep m10)
    have An := Lib.hid hn
    clear c0 c1 c2 x0 x1 y0 y1 q0 q1 q2 q3 m10 hn Rs9 Rx9 Ra9 Rb9 Kx9 Ky9
    have Ss := Lib.hid (Rs10.out.keep ((New.refl w10).alloc (.cells #[.int .i64 nl, .int .i64 nh] 55)))
    have Sx := Lib.hid (Rx10.out.keep ((New.refl w10).alloc (.cells #[.int .i64 nl, .int .i64 nh] 55)))
    have Sa := Lib.hid (Ra10.out.keep ((New.refl w10).alloc (.cells #[.int .i64 nl, .int .i64 nh] 55)))
    have Sb := Lib.hid (Rb10.out.keep ((New.refl w10).alloc (.cells #[.int .i64 nl, .int .i64 nh] 55)))
    have Gx := Lib.hid (Kx10.out.keep ((New.refl w10).alloc (.cells #[.int .i64 nl, .int .i64 nh] 55)))
    have Gy := Lib.hid (Ky10.out.keep ((New.refl w10).alloc (.cells #[.int .i64 nl, .int .i64 nh] 55)))
    have Gm := Lib.hid (Km10.out.keep ((New.refl w10).alloc (.cells #[.int .i64 nl, .int .i64 nh] 55)))
    have Gn := Lib.hid (RowIs.new w10 55 [.int .i64 nl, .int .i64 nh])
    have HQ : Hid (New W6 (w10.alloc (.cells #[.int .i64 nl, .int .i64 nh] 55))) := Lib.hid (HQ10.out.alloc _)
    clear Rs10 Rx10 Ra10 Rb10 Kx10 Ky10 Km10
    have EX : Hid (e2 = 0 → e1 = 0) := Lib.hid fun h => by subst h; exact more_err Ay.out.1 Ax.out.1
    have EM : Hid (e4 = 0 → e3 = 0) := Lib.hid fun h => by subst h; exact more_err An.out.1 Am.out.1
    by_cases z2 : e2 = 0
    rotate_left
    · have z2' : (e2 != 0) = true := by simpa using z2
      go_wp2_with fail
      go_ret
      exact ⟨rfl, HN6.out.trans HQ.out⟩
    by_cases z4 : e4 = 0
    rotate_left
    · subst z2
      have z4' : (e4 != 0) = true := by simpa using z4
      go_wp2_with fail
      go_ret
      exact ⟨rfl, HN6.out.trans HQ.out⟩
    obtain rfl := EX.out z2
    obtain rfl := EM.out z4
    subst z2 z4
    obtain ⟨px, qx⟩ := Ax.out.2.2 rfl
    obtain ⟨py, qy⟩ := Ay.out.2.2 rfl
    obtain ⟨pm, qm⟩ := Am.out.2.2 rfl
    obtain ⟨pn, qn⟩ := An.out.2.2 rfl
    have i1 := more_min px py
    have i2 := more_min qx qy
    have i3 := more_min pm pn
    have i4 := more_min qm qn
    have u1 : decide (yl < xl) = false := by simp; omega
    have u2 : decide (xh < yh) = false := by simp; omega
    have u3 : decide (nl < ml) = false := by simp; omega
    have u4 : decide (mh < nh) = false := by simp; omega
    have EM0 := Lib.hid Am.out.1
    have EN0 := Lib.hid An.out.1
    clear px qx py qy pm qm pn qn i1 i2 i3 i4 Ax Ay Am An EX EM
    have gx0 := Gx.out.cell (i := 0) rfl
    have gx1 := Gx.out.cell (i := 1) rfl
    have gy0 := Gy.out.cell (i := 0) rfl
    have gy1 := Gy.out.cell (i := 1) rfl
    have gm0 := Gm.out.cell (i := 0) rfl
    have gm1 := Gm.out.cell (i := 1) rfl
    have gn0 := Gn.out.cell (i := 0) rfl
    have gn1 := Gn.out.cell (i := 1) rfl
    have c0 := Ss.out.cell (i := 0) rfl
    have c1 := Ss.out.cell (i := 1) rfl
    have c2 := Ss.out.cell (i := 2) rfl
    have x0 := Sa.out.cell (i := 0) rfl
    have y0 := Sb.out.cell (i := 0) rfl
    have x1 := Sa.out.cell (i := 1) rfl
    have y1 := Sb.out.cell (i := 1) rfl
    go_wp2_with fail
    refine (HMust1.out _ ⟨al, an⟩ ⟨bl, bn⟩ HQ.out).mono ?_
    rintro e v0 ⟨mu, f0, rfl, o0, hmu⟩
    have HV0 : Hid (New W6 v0) := Lib.hid ((HQ.out).trans o0)
    obtain rfl : f0 = 0 := ErrP.unique hmu.1 EM0.out
    have Jmu := Lib.hid hmu
    have Ts0 := Lib.hid (Ss.out.keep o0)
    have Tx0 := Lib.hid (Sx.out.keep o0)
    have Ta0 := Lib.hid (Sa.out.keep o0)
    have Tb0 := Lib.hid (Sb.out.keep o0)
    clear c0 c1 c2 x0 x1 y0 y1 o0 hmu Ss Sx Sa Sb gx0 gx1 gy0 gy1 gm0 gm1 gn0 gn1 u1 u2 u3 u4 Gx Gy Gm Gn
    have c0 := Tx0.out.cell (i := 0) rfl
    have c1 := Tx0.out.cell (i := 1) rfl
    have c2 := Tx0.out.cell (i := 2) rfl
    have x0 := Ta0.out.cell (i := 0) rfl
    have y0 := Tb0.out.cell (i := 0) rfl
    have x1 := Ta0.out.cell (i := 1) rfl
    have y1 := Tb0.out.cell (i := 1) rfl
    go_wp2_with fail
    refine (HMust2.out _ ⟨al, an⟩ ⟨bl, bn⟩ HV0.out).mono ?_
    rintro e v1 ⟨st, f1, rfl, o1, hst⟩
    have HV1 : Hid (New W6 v1) := Lib.hid ((HV0.out).trans o1)
    obtain rfl : f1 = 0 := ErrP.unique hst.1 EN0.out
    have Jst := Lib.hid hst
    have Ts1 := Lib.hid (Ts0.out.keep o1)
    have Tx1 := Lib.hid (Tx0.out.keep o1)
    have Ta1 := Lib.hid (Ta0.out.keep o1)
    have Tb1 := Lib.hid (Tb0.out.keep o1)
    clear c0 c1 c2 x0 x1 y0 y1 o1 hst Ts0 Tx0 Ta0 Tb0
    have c0 := Ts1.out.cell (i := 0) rfl
    have c1 := Ts1.out.cell (i := 1) rfl
    have c2 := Ts1.out.cell (i := 2) rfl
    have x0 := Ta1.out.cell (i := 0) rfl
    have y0 := Tb1.out.cell (i := 0) rfl
    have x1 := Ta1.out.cell (i := 1) rfl
    have y1 := Tb1.out.cell (i := 1) rfl
    go_wp2_with fail
    refine (HMay1.out _ ⟨al, an⟩ ⟨bl, bn⟩ HV1.out).mono ?_
    rintro e v2 ⟨ma, f2, rfl, o2, hma⟩
    have HV2 : Hid (New W6 v2) := Lib.hid ((HV1.out).trans o2)
    obtain rfl : f2 = 0 := ErrP.unique hma.1 EM0.out
    have Jma := Lib.hid hma
    have Ts2 := Lib.hid (Ts1.out.keep o2)
    have Tx2 := Lib.hid (Tx1.out.keep o2)
    have Ta2 := Lib.hid (Ta1.out.keep o2)
    have Tb2 := Lib.hid (Tb1.out.keep o2)
    clear c0 c1 c2 x0 x1 y0 y1 o2 hma Ts1 Tx1 Ta1 Tb1
    have c0 := Tx2.out.cell (i := 0) rfl
    have c1 := Tx2.out.cell (i := 1) rfl
    have c2 := Tx2.out.cell (i := 2) rfl
    have x0 := Ta2.out.cell (i := 0) rfl
    have y0 := Tb2.out.cell (i := 0) rfl
    have x1 := Ta2.out.cell (i := 1) rfl
    have y1 := Tb2.out.cell (i := 1) rfl
    go_wp2_with fail
    refine (HMay2.out _ ⟨al, an⟩ ⟨bl, bn⟩ HV2.out).mono ?_
    rintro e v3 ⟨no, f3, rfl, o3, hno⟩
    have HV3 : Hid (New W6 v3) := Lib.hid ((HV2.out).trans o3)
    obtain rfl : f3 = 0 := ErrP.unique hno.1 EN0.out
    have Jno := Lib.hid hno
    have Ts3 := Lib.hid (Ts2.out.keep o3)
    have Tx3 := Lib.hid (Tx2.out.keep o3)
    have Ta3 := Lib.hid (Ta2.out.keep o3)
    have Tb3 := Lib.hid (Tb2.out.keep o3)
    clear c0 c1 c2 x0 x1 y0 y1 o3 hno Ts2 Tx2 Ta2 Tb2
    have F1 := Lib.hid (must_more Jmu.out Jst.out)
    have F2 := Lib.hid (may_more Jma.out Jno.out)
    have HEND := Lib.hid (HN6.out.trans HV3.out)
    clear Jmu Jst Jma Jno Ts3 Tx3 Ta3 Tb3 HV0 HV1 HV2 HV3 HMust1 HMust2 HMay1 HMay2 HRelation1 HRelation2 HInterval1 HInterval2
    cases mu <;> cases st <;> cases ma <;> cases no
    all_goals first | (exact absurd (F1.out rfl) (by decide)) | (exact absurd (F2.out rfl) (by decide)) | (go_wp2_with fail; go_ret; exact ⟨rfl, HEND.out⟩)
namespace LawMore
theorem reads : ∀ t ∈ Tryd.f11.params.toList, Tryd.prog.readableRec t = true ∧ t < Tryd.prog.types.size := by
  rw [Tryd.params11]
  intro t ht
  have ht : t = 25 ∨ t = 79 ∨ t = 53 := by simpa using ht
  rcases ht with rfl | rfl | rfl
  · exact ⟨by kernel_rfl, of_decide_eq_true (by kernel_rfl)⟩
  · exact ⟨by kernel_rfl, of_decide_eq_true (by kernel_rfl)⟩
  · exact ⟨by kernel_rfl, of_decide_eq_true (by kernel_rfl)⟩
set_option maxRecDepth 100000 in
set_option maxHeartbeats 2000000 in
theorem contract (H : Type) (enc : TypeId × Value → H) (W : World) (base : Nat) (args : Array Value) (ds gs : List (DataW H)) (before : List MemPlace)
    (hval : ∀ (j : Nat) t v, Tryd.f11.params[j]? = some t → args[j]? = some v → Value.okWide Tryd.prog W .any base t v)
    (hW : DataW.Whole enc Tryd.prog Tryd.f11.params.toList Rows.clocksMoreSpec.vars false W args.toList ds gs before) (_ : W.ShapedOpen Tryd.prog) (hlaid : laidMetH Tryd.prog Rows.clocksMoreRow.laid W) :
    Calls Tryd.prog 11 args W fun e W' => ∃ v, e = .returned v ∧ Rows.clocksMoreSpec.post enc Tryd.prog Tryd.f11 false true false false W args v W' := by
  have hW' := hW
  obtain ⟨p, q, hA0, hV, rfl, hfz, hnd⟩ := hW
  have hA : DataW.TrodAll enc Tryd.prog W 0 (fun _ => true) true Tryd.f11.params.toList args.toList ds p := hA0
  rw [Tryd.params11] at hA hval
  obtain ⟨v0, vs0, d0, ds0, p0, q0, hargs, rfl, rfl, h0, r0⟩ := trodAll_cons hA
  obtain ⟨v1, vs1, d1, ds1, p1, q1, rfl, rfl, rfl, h1, r1⟩ := trodAll_cons r0
  obtain ⟨v2, vs2, d2, ds2, p2, q2, rfl, rfl, rfl, h2, r2⟩ := trodAll_cons r1
  obtain ⟨v3, vs3, d3, ds3, p3, q3, rfl, rfl, rfl, h3, r3⟩ := trodAll_cons r2
  obtain ⟨rfl, rfl, rfl⟩ := trodAll_nil r3
  obtain rfl : args = #[v0, v1, v2, v3] := by cases args; simp_all
  obtain ⟨rfl, rfl⟩ := trodVars_none hV
  have hv0 := hval 0 25 v0 rfl rfl
  have hv1 := hval 1 79 v1 rfl rfl
  have hv2 := hval 2 53 v2 rfl rfl
  have hv3 := hval 3 53 v3 rfl rfl
  clear hval
  obtain ⟨s0, A0, D0, c0, e0, rfl, hM0⟩ := open_sys hv0 h0
  obtain ⟨T1, rfl⟩ := open_tie hv1 h1
  obtain ⟨R2, rfl⟩ := open_ref hv2 h2
  obtain ⟨R3, rfl⟩ := open_ref hv3 h3
  have hbeg : BegA W := beg_of_laid hlaid
  refine (law_more s0 A0 D0 c0 e0 T1 R2 R3 W hM0 hbeg).mono fun e W' ⟨he, hb⟩ => ?_
  subst he
  exact ⟨_, rfl, post_true hW' rfl (by kernel_rfl) ⟨rfl, rfl, rfl⟩ reads hb⟩
theorem laid_met (os : Os) : laidMet Tryd.prog Rows.clocksMoreRow.laid ((laidWorld os).forCall (fun _ _ => 0) ⟨#[], #[.agg #[.slice none 0 0, .slice none 0 0, .int .i64 0], .agg #[.int .i64 0, .int .i64 0, .int .i64 0, .int .i64 0], .agg #[.int .i64 0, .int .i64 0], .agg #[.int .i64 0, .int .i64 0]], []⟩).memory :=
  laidMet_of_run' 8 (by kernel_rfl) (by kernel_rfl)
theorem reads_w (os : Os) {H : Type} (enc : TypeId × Value → H) : ∃ places, DataW.whole enc Tryd.prog ((laidWorld os).forCall (fun _ _ => 0) ⟨#[], #[.agg #[.slice none 0 0, .slice none 0 0, .int .i64 0], .agg #[.int .i64 0, .int .i64 0, .int .i64 0, .int .i64 0], .agg #[.int .i64 0, .int .i64 0], .agg #[.int .i64 0, .int .i64 0]], []⟩).memory Tryd.f11.params.toList Rows.clocksMoreSpec.vars false #[Value.agg #[.slice none 0 0, .slice none 0 0, .int .i64 0], .agg #[.int .i64 0, .int .i64 0, .int .i64 0, .int .i64 0], .agg #[.int .i64 0, .int .i64 0], .agg #[.int .i64 0, .int .i64 0]].toList 8 = some ([.agg [.nil, .nil, .lit (.int .i64 0)], .agg [.agg [.lit (.int .i64 0), .lit (.int .i64 0)], .agg [.lit (.int .i64 0), .lit (.int .i64 0)]], .agg [.lit (.int .i64 0), .lit (.int .i64 0)], .agg [.lit (.int .i64 0), .lit (.int .i64 0)]], [], places) :=
  ⟨[], by kernel_rfl⟩
set_option maxRecDepth 100000 in
theorem lifted (os : Os) (started : os.Started) (H : Type) (enc : TypeId × Value → H) (F : Stop.Interp) :
    ReturnsInHanded {} Tryd.checked os 11 .any ((OpenSpec.ofChange Rows.clocksMoreSpec).preRow enc Tryd.prog Tryd.f11 Rows.clocksMoreRow.domain false Rows.clocksMoreRow.laid) (((OpenSpec.ofChange Rows.clocksMoreSpec).at F).post enc Tryd.prog Tryd.f11 false true false false) := by
  obtain ⟨places, hx⟩ := reads_w os enc
  refine returnsInHanded_of_row (C := Tryd.checked) (s := OpenSpec.ofChange Rows.clocksMoreSpec) row_own started (by kernel_rfl) Tryd.func11
    (witness_row_at (enc := enc) (C := Tryd.checked) false (laidWorld os) #[.agg #[.slice none 0 0, .slice none 0 0, .int .i64 0], .agg #[.int .i64 0, .int .i64 0, .int .i64 0, .int .i64 0], .agg #[.int .i64 0, .int .i64 0], .agg #[.int .i64 0, .int .i64 0]] rfl (by kernel_rfl) (by kernel_rfl) (by kernel_rfl)
      (OpenSpec.preRow_of_cond 8 hx (by kernel_rfl) (fun k hk => by cases hk) (by kernel_rfl) (laid_met os))) ?_
  intro W base args ds gs before hval hW _ _ _ hlaid hS _
  exact contract H enc W base args ds gs before hval hW hS hlaid
theorem said : Rows.ClocksMoreSaid :=
  OpenClaim.holds_of_cond 11 Tryd.f11 rfl rfl rfl rfl rfl rfl rfl ⟨rfl, rfl, rfl, rfl, rfl⟩ rfl rfl rfl rfl rfl (by kernel_rfl) Tryd.func11 (by kernel_rfl)
    (of_decide_eq_true (by kernel_rfl)) (by unfold Func.isWrapper; first | (rw [if_pos (by decide +kernel)]; kernel_rfl) | (rw [if_neg (by decide +kernel)]; exact ⟨rfl, rfl⟩))
    (fun os started H enc _ F => by rw [OpenClaim.pre_eq_preRow]; exact lifted os started H enc F)
theorem plain (f : FuncId) (fn : Func) (hf : Tryd.pinned.checked.prog.funcNamed "pileup/pileuplaw03.ClocksMore" = some f) (hfn : Tryd.pinned.checked.prog.funcs[f]? = some fn) :
    true = Tryd.pinned.checked.prog.looks [] ∧ ∀ (j : Nat) t, fn.params[j]? = some t → Tryd.pinned.checked.prog.wantsStandIn t = false := by
  obtain rfl : f = 11 := Option.some.inj ((show Tryd.prog.funcNamed "pileup/pileuplaw03.ClocksMore" = some 11 by kernel_rfl).symm.trans hf) |>.symm
  obtain rfl : fn = Tryd.f11 := (Option.some.inj (Tryd.func11.symm.trans hfn)).symm
  refine ⟨by kernel_rfl, fun j t ht => ?_⟩
  rw [Tryd.params11] at ht
  have ht : t = 25 ∨ t = 79 ∨ t = 53 := by simpa using Array.mem_of_getElem? ht
  rcases ht with rfl | rfl | rfl
  · exact (show Tryd.prog.wantsStandIn 25 = false by kernel_rfl)
  · exact (show Tryd.prog.wantsStandIn 79 = false by kernel_rfl)
  · exact (show Tryd.prog.wantsStandIn 53 = false by kernel_rfl)
theorem card : Rows.ClocksMoreCardSaid :=
  Claim7.holds_tied_plain_at .later [] _ _ _ _ said (fun _ h => by cases h) (by kernel_rfl) (fun _ h => by cases h) clocksMore_row_tie rfl ⟨rfl, rfl⟩ (by kernel_rfl) rfl plain (by kernel_rfl)
end LawMore
end Go.Proofs.YtlhdhfhfdkldjaaDoor
