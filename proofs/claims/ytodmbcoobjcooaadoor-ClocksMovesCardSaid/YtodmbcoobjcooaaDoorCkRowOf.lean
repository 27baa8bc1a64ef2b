/-
  The knots of the program: row. Condition: the knots and the waves lie in memory.
-/
import Derived.Test.YtodmbcoobjcooaaDoorCkNames
namespace Go.Proofs.YtodmbcoobjcooaaDoor
open Go Go.RowKit Go.Shelf
attribute [local go_sem] Oper.semAt_some
/-- The waves from the beginning, in memory. -/
def StA (w : World) (A : Option Addr) (ns : Nat) (nn : Nat → Nat) (ds : Nat → Nat → Int) : Prop := 0 < ns → ∃ b off, A = some ⟨b, off, none⟩ ∧ ∀ i, i < ns → ∃ gi, w.cell? ⟨b, off + i, none⟩ = some (.pointer (some ⟨gi, 0, none⟩)) ∧ WSum w gi (nn i) (ds i)
theorem StA.keep {w w' : World} {A : Option Addr} {ns : Nat} {nn : Nat → Nat} {ds : Nat → Nat → Int} (h : StA w A ns nn ds) (k : New w w') : StA w' A ns nn ds := fun h0 => by
  obtain ⟨b, off, e, hc⟩ := h h0
  exact ⟨b, off, e, fun i hi => by
    obtain ⟨gi, h1, h2⟩ := hc i hi
    exact ⟨gi, k.cellOf h1, h2.keep k⟩⟩
/-- A number of a row. -/
def rowF (p : Rf) (d : Nat → Int) (ds : Nat → Nat → Int) (q : Rf) : Int := if q.log = p.log then d (1 + q.line.toNat) else d 0 + ds q.log.toNat (1 + q.line.toNat)
theorem take_map_succ {α β : Type} [Inhabited α] (f : α → β) (l : List α) {k : Nat} (h : k < l.length) : (l.take (k + 1)).map f = (l.take k).map f ++ [f (l[k]?.getD default)] := by
  rw [take_at h, List.map_append]; rfl
set_option maxRecDepth 100000 in
set_option maxHeartbeats 8000000 in
theorem ck_row (w : World) (g gw m lc ns sc : Nat) (LA SA : Option Addr) (l : List Rf) (nn : Nat → Nat) (d : Nat → Int) (ds : Nat → Nat → Int) (i0 : Nat) (pn : Int) (hg : w.cell? ⟨g, 1, none⟩ = some (.slice LA l.length lc)) (hL : RfsA w LA l) (hW : WSum w gw (nn i0) d) (hS : StA w SA ns nn ds)
    (hl : ∀ q ∈ l, ∃ i j : Nat, q.log = i ∧ q.line = j ∧ i < ns ∧ 1 + j < nn i) (hlm : l.length = m) (hm : m ≤ 100000) (hn0 : 0 < nn i0) (hd : ∀ v, v < nn i0 → -10000000000000 ≤ d v ∧ d v ≤ 10000000000000) (hds : ∀ i v, i < ns → v < nn i → -10000000000000 ≤ ds i v ∧ ds i v ≤ 10000000000000) (hnn : ∀ i, nn i ≤ 1000000) :
    Calls Tryd.prog 123 #[.pointer (some ⟨g, 0, none⟩), .agg #[.int .i64 i0, .int .i64 pn], .pointer (some ⟨gw, 0, none⟩), .slice SA ns sc] w fun e w' => ∃ V, e = .returned V ∧ New w w' ∧ w'.ownsRow w.heap.size 3 1 V m ((l.map (rowF ⟨i0, pn⟩ d ds)).map (Value.int .i64)) := by
  have n1 := (New.refl w).alloc (.cells #[.int .i64 i0, .int .i64 pn] 53)
  have r1 := RowIs.new w 53 [.int .i64 i0, .int .i64 pn]
  have HW0 := Lib.hid hW
  have HS0 := Lib.hid hS
  have HG := Lib.hid (n1.cellOf hg)
  have HL := Lib.hid (hL.keep n1)
  have HW := Lib.hid (hW.keep n1)
  have HS := Lib.hid (hS.keep n1)
  have HR := Lib.hid r1
  have HN := Lib.hid n1
  have HLL := Lib.hid hl
  have HD := Lib.hid hd
  have HDS := Lib.hid hds
  have HNN := Lib.hid hnn
  have z0 := n1.cellOf hg
  rw [hlm] at z0
  clear hg hL hW hS n1 r1 hl hd hds hnn
  go_enter Tryd.func123, Tryd.ntmps123
  go_wp2_with fail
  have HSZ : Hid ((w.alloc (.cells #[.int .i64 i0, .int .i64 pn] 53)).heap.size = w.heap.size + 1) := Lib.hid (by simp)
  generalize hW1 : w.alloc (.cells #[.int .i64 i0, .int .i64 pn] 53) = W1 at *
  clear hW1 z0
  obtain ⟨t0, hi0, hz0, hz1, hz2⟩ := info_parts info_int
  have HI : Hid (Tryd.prog.info? 3 = some t0 ∧ t0.zero = some (.int .i64 0) ∧ t0.size = 1 ∧ t0.bytes = 8) := Lib.hid ⟨hi0, hz0, hz1, hz2⟩
  clear hi0 hz0 hz1 hz2
  go_loopw [9, 18] (fun V i wr => ∃ k : Nat, k ≤ m ∧ i = .int .i64 k ∧ New W1 wr ∧ wr.ownsRow w.heap.size 3 1 V k (((l.take k).map (rowF ⟨i0, pn⟩ d ds)).map (Value.int .i64))) (fun _ i _ => m - (intOf i).toNat)
  case atStart => exact ⟨0, Nat.zero_le _, rfl, New.refl _, World.ownsRow_nil _ _ _ _⟩
  case round =>
    obtain ⟨k, hk, rfl, hn, ho⟩ := hrel
    by_cases hlt : k < m
    · obtain ⟨VA, vc, rfl⟩ := owns_form ho
      have HO := Lib.hid ho
      have HNK := Lib.hid hn
      obtain ⟨lb, lo, rfl, -, hcl⟩ := (HL.out.keep hn).2 (by omega)
      obtain ⟨c0, c1⟩ := hcl k (by omega)
      have hq : l[k]?.getD default ∈ l := by rw [getD_get (by omega)]; exact List.getElem_mem _
      obtain ⟨qi, qj, e1, e2, hqi, hqj⟩ := HLL.out _ hq
      have hsucc := take_map_succ (rowF ⟨i0, pn⟩ d ds) l (k := k) (by omega)
      generalize l[k]?.getD default = q at *
      obtain ⟨ql, qn⟩ := q
      dsimp only at e1 e2 c0 c1
      subst e1
      subst e2
      have HSU := Lib.hid hsucc
      have ik : (k : Int) < (m : Int) := by omega
      have nb := HNN.out qi
      have hwj : IntKind.i64.wrap (1 + (qj : Int)) = 1 + (qj : Int) := IntWalk.i64_in _ (by omega)
      have n2 := (New.refl wr).alloc (.cells #[.int .i64 qi, .int .i64 qj] 53)
      have y0 := ((HR.out.keep hn).keep n2).cell (i := 0) rfl
      have HN2 := Lib.hid (hn.trans n2)
      have HK2 := Lib.hid n2
      obtain ⟨xa, ya, sb, w1, w2⟩ := HW.out.keep (hn.trans n2)
      have v0 := w1.cell (i := 1) rfl
      clear hn ho hcl hsucc n2 w1
      have hxs : ∃ xs, ((l.take k).map (rowF ⟨i0, pn⟩ d ds)).map (Value.int .i64) = xs := ⟨_, rfl⟩
      obtain ⟨xs, hxs⟩ := hxs
      replace HO := Lib.hid (hxs ▸ HO.out)
      have HXS := Lib.hid hxs
      clear hxs
      by_cases hpq : qi = i0
      · have hqe : qi = i0 := by omega
        subst hqe
        have v1 := w2.cell (fnRow_get (f := d) hqj)
        have ij : (1 + (qj : Int)) < (nn qi : Int) := by omega
        have hte : (1 + (qj : Int)).toNat = 1 + qj := by omega
        have HFE : Hid ([Value.int .i64 (d (1 + qj))] = List.map (Value.int .i64) [rowF ⟨qi, pn⟩ d ds ⟨qi, qj⟩]) := Lib.hid (by simp [rowF])
        go_wp2_with (at_builtin; go_loud (refine wpList_append_lies _ rfl (.tmp 30) (.tmp 38) 26 rfl w.heap.size 3 t0 (.int .i64 0) 1 8 Tryd.underlying26 HI.out.1 HI.out.2.1 HI.out.2.2.1 HI.out.2.2.2 rfl (by decide) (.slice VA k vc) k _ rfl (owns_keep HO.out (HK2.out.alloc _)) ⟨wr.heap.size + 1, 0, none⟩ 1 1 [.int .i64 (d (1 + qj))] rfl rfl ?c1 ?c2 (by decide) ?c3 ?c4 ?c5 _ rfl ?_))
        case c2 => simp [Value.oneCell']
        case c3 => unfold maxLen; omega
        case c4 => omega
        case c5 => have := (HN.out.trans HN2.out).size; simp at this; simp; omega
        intro g5 cap w7 ho5 hg5 _ _
        have ka := HK2.out.alloc (.cells #[.int .i64 (d (1 + qj))] 3)
        have kb := HN.out.trans (HNK.out.trans ka)
        have hn7 : New W1 w7 := by
          have h1 := (HNK.out.trans ka)
          have hz : W1.heap.size = w.heap.size + 1 := HSZ.out
          refine Below.trans h1 ⟨hg5.os, hg5.tape, hg5.output, hg5.size, fun x hx => hg5.block x (Nat.lt_of_lt_of_le hx h1.size) (fun e => ?_)⟩
          rcases HO.out.2 with ⟨e3, _⟩ | ⟨g', cap', cur, e3, hbg, hh, _⟩
          · rw [e3] at e; simp [Value.ownBlock] at e
          · rw [e3] at e
            have e4 : x = g' := by simpa [Value.ownBlock] using e
            have h2 := (HR.out.keep HNK.out)
            unfold RowIs at h2
            have : g' ≠ w.heap.size := fun e5 => by rw [e5, h2] at hh; cases hh
            omega
        have HN7 := Lib.hid hn7
        have HO7 := Lib.hid ho5
        clear ka kb hn7 ho5 hg5
        go_wp2_with fail
        go_roundw
        case rel => exact ⟨k + 1, by omega, rfl, HN7.out, by rw [HSU.out, List.map_append, HXS.out]; exact (show _ = _ from HFE.out) ▸ HO7.out⟩
        case measure => simp [intOf]; omega
      · have hne : ¬ ((qi : Int) = (i0 : Int)) := by omega
        have HFE : Hid ([Value.int .i64 (d 0 + ds qi (1 + qj))] = List.map (Value.int .i64) [rowF ⟨i0, pn⟩ d ds ⟨qi, qj⟩]) := Lib.hid (by simp [rowF, hne])
        clear v0 w2
        obtain ⟨xw, yw, sw, b1, b2⟩ := HW0.out
        have A0 := b1.cell (i := 1) rfl
        have A1 := b2.cell (fnRow_get (f := d) hn0)
        obtain ⟨sb1, so1, rfl, hst⟩ := HS0.out (by omega)
        obtain ⟨gi, A2, xs2, ys2, sbi, s1, s2⟩ := hst qi hqi
        have A3 := s1.cell (i := 1) rfl
        have A4 := s2.cell (fnRow_get (f := ds qi) hqj)
        have d1 := HD.out 0 hn0
        have d2 := HDS.out qi (1 + qj) hqi hqj
        have hwd : IntKind.i64.wrap (d 0 + ds qi (1 + qj)) = d 0 + ds qi (1 + qj) := IntWalk.i64_in _ (by omega)
        have ij : (1 + (qj : Int)) < (nn qi : Int) := by omega
        have in0 : (0 : Int) < (nn i0 : Int) := by omega
        have iq : (qi : Int) < (ns : Int) := by omega
        have hte : (1 + (qj : Int)).toNat = 1 + qj := by omega
        clear hst s1 s2 b1 b2
        go_wp2_with fail
        have HW3 : Hid (RowIs (wr.alloc (.cells #[.int .i64 qi, .int .i64 qj] 53)) wr.heap.size 53 [.int .i64 qi, .int .i64 qj]) := Lib.hid (RowIs.new wr 53 [.int .i64 qi, .int .i64 qj])
        have hqs : wr.heap.size + 1 = (wr.alloc (.cells #[.int .i64 qi, .int .i64 qj] 53)).heap.size := by simp
        generalize wr.alloc (.cells #[.int .i64 qi, .int .i64 qj] 53) = W3 at *
        have hS : New w W3.drew ∧ W3.drew.cell? ⟨wr.heap.size, 0, none⟩ = some (.int .i64 qi) := ⟨(HN.out.trans HN2.out).trans (New.refl W3).drew, HW3.out.drew.cell rfl⟩
        refine region_plain (by kernel_rfl) (wpAny_of_held (S := fun w' => New w w' ∧ w'.cell? ⟨wr.heap.size, 0, none⟩ = some (.int .i64 qi)) _ _ _ _ ?_)
        change wpAnyH _ _ _ _ _ _ _ _ W3.drew
        refine wpAnyH_take (i := 0) (v := ?_) rfl (by kernel_rfl) (by kernel_rfl) (by kernel_rfl) (fun _ _ _ h => h) (Or.inl ⟨by rfl, fun w' hS' => ?_⟩) hS ?_
        rotate_left
        · obtain ⟨hnw, s0⟩ := hS'
          have a0 := hnw.cellOf A0
          have a1 := hnw.cellOf A1
          have a2 := hnw.cellOf A2
          have a3 := hnw.cellOf A3
          have a4 := hnw.cellOf A4
          clear hnw
          go_simp
          try rfl
        try simp only [List.getElem_toArray, List.getElem_cons_zero, Act.put, List.setIfInBounds_toArray, List.set_cons_zero, List.set_cons_succ]
        refine wpAnyH_take (i := 1) (v := ?_) rfl (by kernel_rfl) (by kernel_rfl) (by kernel_rfl) (fun _ _ _ h => h) (Or.inl ⟨by rfl, fun w' hS' => ?_⟩) hS ?_
        rotate_left
        · obtain ⟨hnw, s0⟩ := hS'
          have a0 := hnw.cellOf A0
          have a1 := hnw.cellOf A1
          have a2 := hnw.cellOf A2
          have a3 := hnw.cellOf A3
          have a4 := hnw.cellOf A4
          clear hnw
          go_simp
          try rfl
        try simp only [List.getElem_toArray, List.getElem_cons_zero, List.getElem_cons_succ, Act.put, List.setIfInBounds_toArray, List.set_cons_zero, List.set_cons_succ]
        refine wpAnyH_take (i := 2) (v := ?_) rfl (by kernel_rfl) (by kernel_rfl) (by kernel_rfl) (fun _ _ _ h => h) (Or.inl ⟨by rfl, fun w' hS' => ?_⟩) hS ?_
        rotate_left
        · obtain ⟨hnw, s0⟩ := hS'
          have a0 := hnw.cellOf A0
          have a1 := hnw.cellOf A1
          have a2 := hnw.cellOf A2
          have a3 := hnw.cellOf A3
          have a4 := hnw.cellOf A4
          clear hnw
          go_simp
          try rfl
        try simp only [List.getElem_toArray, List.getElem_cons_zero, List.getElem_cons_succ, Act.put, List.setIfInBounds_toArray, List.set_cons_zero, List.set_cons_succ]
        refine wpAnyH_take (i := 3) (v := ?_) rfl (by kernel_rfl) (by kernel_rfl) (by kernel_rfl) (fun _ _ _ h => h) (Or.inl ⟨by rfl, fun w' hS' => ?_⟩) hS ?_
        rotate_left
        · obtain ⟨hnw, s0⟩ := hS'
          have a0 := hnw.cellOf A0
          have a1 := hnw.cellOf A1
          have a2 := hnw.cellOf A2
          have a3 := hnw.cellOf A3
          have a4 := hnw.cellOf A4
          clear hnw
          go_simp
          try rfl
        try simp only [List.getElem_toArray, List.getElem_cons_zero, List.getElem_cons_succ, Act.put, List.setIfInBounds_toArray, List.set_cons_zero, List.set_cons_succ]
        refine wpAnyH_take (i := 4) (v := ?_) rfl (by kernel_rfl) (by kernel_rfl) (by kernel_rfl) (fun _ _ _ h => h) (Or.inl ⟨by rfl, fun w' hS' => ?_⟩) hS ?_
        rotate_left
        · obtain ⟨hnw, s0⟩ := hS'
          have a0 := hnw.cellOf A0
          have a1 := hnw.cellOf A1
          have a2 := hnw.cellOf A2
          have a3 := hnw.cellOf A3
          have a4 := hnw.cellOf A4
          clear hnw
          go_simp
          try rfl
        try simp only [List.getElem_toArray, List.getElem_cons_zero, List.getElem_cons_succ, Act.put, List.setIfInBounds_toArray, List.set_cons_zero, List.set_cons_succ]
        refine wpAnyH_take (i := 5) (v := ?_) rfl (by kernel_rfl) (by kernel_rfl) (by kernel_rfl) (fun _ _ _ h => h) (Or.inl ⟨by rfl, fun w' hS' => ?_⟩) hS ?_
        rotate_left
        · obtain ⟨hnw, s0⟩ := hS'
          have a0 := hnw.cellOf A0
          have a1 := hnw.cellOf A1
          have a2 := hnw.cellOf A2
          have a3 := hnw.cellOf A3
          have a4 := hnw.cellOf A4
          clear hnw
          go_simp
          try rfl
        try simp only [List.getElem_toArray, List.getElem_cons_zero, List.getElem_cons_succ, Act.put, List.setIfInBounds_toArray, List.set_cons_zero, List.set_cons_succ]
        refine wpAnyH_take (i := 6) (v := ?_) rfl (by kernel_rfl) (by kernel_rfl) (by kernel_rfl) (fun _ _ _ h => h) (Or.inl ⟨by rfl, fun w' hS' => ?_⟩) hS ?_
        rotate_left
        · obtain ⟨hnw, s0⟩ := hS'
          have a0 := hnw.cellOf A0
          have a1 := hnw.cellOf A1
          have a2 := hnw.cellOf A2
          have a3 := hnw.cellOf A3
          have a4 := hnw.cellOf A4
          clear hnw
          go_simp
          try rfl
        try simp only [List.getElem_toArray, List.getElem_cons_zero, List.getElem_cons_succ, Act.put, List.setIfInBounds_toArray, List.set_cons_zero, List.set_cons_succ]
        refine wpAnyH_take (i := 7) (v := ?_) rfl (by kernel_rfl) (by kernel_rfl) (by kernel_rfl) (fun _ _ _ h => h) (Or.inl ⟨by rfl, fun w' hS' => ?_⟩) hS ?_
        rotate_left
        · obtain ⟨hnw, s0⟩ := hS'
          have a0 := hnw.cellOf A0
          have a1 := hnw.cellOf A1
          have a2 := hnw.cellOf A2
          have a3 := hnw.cellOf A3
          have a4 := hnw.cellOf A4
          clear hnw
          go_simp
          try rfl
        try simp only [List.getElem_toArray, List.getElem_cons_zero, List.getElem_cons_succ, Act.put, List.setIfInBounds_toArray, List.set_cons_zero, List.set_cons_succ]
        refine wpAnyH_take (i := 8) (v := ?_) rfl (by kernel_rfl) (by kernel_rfl) (by kernel_rfl) (fun _ _ _ h => h) (Or.inl ⟨by rfl, fun w' hS' => ?_⟩) hS ?_
        rotate_left
        · obtain ⟨hnw, s0⟩ := hS'
          have a0 := hnw.cellOf A0
          have a1 := hnw.cellOf A1
          have a2 := hnw.cellOf A2
          have a3 := hnw.cellOf A3
          have a4 := hnw.cellOf A4
          clear hnw
          go_simp
          try rfl
        try simp only [List.getElem_toArray, List.getElem_cons_zero, List.getElem_cons_succ, Act.put, List.setIfInBounds_toArray, List.set_cons_zero, List.set_cons_succ]
        refine wpAnyH_take (i := 9) (v := ?_) rfl (by kernel_rfl) (by kernel_rfl) (by kernel_rfl) (fun _ _ _ h => h) (Or.inl ⟨by rfl, fun w' hS' => ?_⟩) hS ?_
        rotate_left
        · obtain ⟨hnw, s0⟩ := hS'
          have a0 := hnw.cellOf A0
          have a1 := hnw.cellOf A1
          have a2 := hnw.cellOf A2
          have a3 := hnw.cellOf A3
          have a4 := hnw.cellOf A4
          clear hnw
          go_simp
          try rfl
        try simp only [List.getElem_toArray, List.getElem_cons_zero, List.getElem_cons_succ, Act.put, List.setIfInBounds_toArray, List.set_cons_zero, List.set_cons_succ]
        refine wpAnyH_take (i := 10) (v := ?_) rfl (by kernel_rfl) (by kernel_rfl) (by kernel_rfl) (fun _ _ _ h => h) (Or.inl ⟨by rfl, fun w' hS' => ?_⟩) hS ?_
        rotate_left
        · obtain ⟨hnw, s0⟩ := hS'
          have a0 := hnw.cellOf A0
          have a1 := hnw.cellOf A1
          have a2 := hnw.cellOf A2
          have a3 := hnw.cellOf A3
          have a4 := hnw.cellOf A4
          clear hnw
          go_simp
          try rfl
        try simp only [List.getElem_toArray, List.getElem_cons_zero, List.getElem_cons_succ, Act.put, List.setIfInBounds_toArray, List.set_cons_zero, List.set_cons_succ]
        refine wpAnyH_take (i := 11) (v := ?_) rfl (by kernel_rfl) (by kernel_rfl) (by kernel_rfl) (fun _ _ _ h => h) (Or.inl ⟨by rfl, fun w' hS' => ?_⟩) hS ?_
        rotate_left
        · obtain ⟨hnw, s0⟩ := hS'
          have a0 := hnw.cellOf A0
          have a1 := hnw.cellOf A1
          have a2 := hnw.cellOf A2
          have a3 := hnw.cellOf A3
          have a4 := hnw.cellOf A4
          clear hnw
          go_simp
          try rfl
        try simp only [List.getElem_toArray, List.getElem_cons_zero, List.getElem_cons_succ, Act.put, List.setIfInBounds_toArray, List.set_cons_zero, List.set_cons_succ]
        refine wpAnyH_take (i := 12) (v := ?_) rfl (by kernel_rfl) (by kernel_rfl) (by kernel_rfl) (fun _ _ _ h => h) (Or.inl ⟨by rfl, fun w' hS' => ?_⟩) hS ?_
        rotate_left
        · obtain ⟨hnw, s0⟩ := hS'
          have a0 := hnw.cellOf A0
          have a1 := hnw.cellOf A1
          have a2 := hnw.cellOf A2
          have a3 := hnw.cellOf A3
          have a4 := hnw.cellOf A4
          clear hnw
          go_simp
          try rfl
        try simp only [List.getElem_toArray, List.getElem_cons_zero, List.getElem_cons_succ, Act.put, List.setIfInBounds_toArray, List.set_cons_zero, List.set_cons_succ]
        refine wpAnyH_take (i := 13) (v := ?_) rfl (by kernel_rfl) (by kernel_rfl) (by kernel_rfl) (fun _ _ _ h => h) (Or.inl ⟨by rfl, fun w' hS' => ?_⟩) hS ?_
        rotate_left
        · obtain ⟨hnw, s0⟩ := hS'
          have a0 := hnw.cellOf A0
          have a1 := hnw.cellOf A1
          have a2 := hnw.cellOf A2
          have a3 := hnw.cellOf A3
          have a4 := hnw.cellOf A4
          clear hnw
          go_simp
          try rfl
        try simp only [List.getElem_toArray, List.getElem_cons_zero, List.getElem_cons_succ, Act.put, List.setIfInBounds_toArray, List.set_cons_zero, List.set_cons_succ]
        refine wpAnyH_take (i := 14) (v := ?_) rfl (by kernel_rfl) (by kernel_rfl) (by kernel_rfl) (fun _ _ _ h => h) (Or.inl ⟨by rfl, fun w' hS' => ?_⟩) hS ?_
        rotate_left
        · obtain ⟨hnw, s0⟩ := hS'
          have a0 := hnw.cellOf A0
          have a1 := hnw.cellOf A1
          have a2 := hnw.cellOf A2
          have a3 := hnw.cellOf A3
          have a4 := hnw.cellOf A4
          clear hnw
          go_simp
          try rfl
        try simp only [List.getElem_toArray, List.getElem_cons_zero, List.getElem_cons_succ, Act.put, List.setIfInBounds_toArray, List.set_cons_zero, List.set_cons_succ]
        refine wpAnyH_take (i := 15) (v := ?_) rfl (by kernel_rfl) (by kernel_rfl) (by kernel_rfl) (fun _ _ _ h => h) (Or.inl ⟨by rfl, fun w' hS' => ?_⟩) hS ?_
        rotate_left
        · obtain ⟨hnw, s0⟩ := hS'
          have a0 := hnw.cellOf A0
          have a1 := hnw.cellOf A1
          have a2 := hnw.cellOf A2
          have a3 := hnw.cellOf A3
          have a4 := hnw.cellOf A4
          clear hnw
          go_simp
          try rfl
        try simp only [List.getElem_toArray, List.getElem_cons_zero, List.getElem_cons_succ, Act.put, List.setIfInBounds_toArray, List.set_cons_zero, List.set_cons_succ]
        refine wpAnyH_take (i := 16) (v := ?_) rfl (by kernel_rfl) (by kernel_rfl) (by kernel_rfl) (fun _ _ _ h => h) (Or.inl ⟨by rfl, fun w' hS' => ?_⟩) hS ?_
        rotate_left
        · obtain ⟨hnw, s0⟩ := hS'
          have a0 := hnw.cellOf A0
          have a1 := hnw.cellOf A1
          have a2 := hnw.cellOf A2
          have a3 := hnw.cellOf A3
          have a4 := hnw.cellOf A4
          clear hnw
          go_simp
          try rfl
        try simp only [List.getElem_toArray, List.getElem_cons_zero, List.getElem_cons_succ, Act.put, List.setIfInBounds_toArray, List.set_cons_zero, List.set_cons_succ]
        refine wpAnyH_take (i := 17) (v := ?_) rfl (by kernel_rfl) (by kernel_rfl) (by kernel_rfl) (fun _ _ _ h => h) (Or.inl ⟨by rfl, fun w' hS' => ?_⟩) hS ?_
        rotate_left
        · obtain ⟨hnw, s0⟩ := hS'
          have a0 := hnw.cellOf A0
          have a1 := hnw.cellOf A1
          have a2 := hnw.cellOf A2
          have a3 := hnw.cellOf A3
          have a4 := hnw.cellOf A4
          clear hnw
          go_simp
          try rfl
        try simp only [List.getElem_toArray, List.getElem_cons_zero, List.getElem_cons_succ, Act.put, List.setIfInBounds_toArray, List.set_cons_zero, List.set_cons_succ]
        refine wpAnyH_take (i := 18) (v := ?_) rfl (by kernel_rfl) (by kernel_rfl) (by kernel_rfl) (fun _ _ _ h => h) (Or.inl ⟨by rfl, fun w' hS' => ?_⟩) hS ?_
        rotate_left
        · obtain ⟨hnw, s0⟩ := hS'
          have a0 := hnw.cellOf A0
          have a1 := hnw.cellOf A1
          have a2 := hnw.cellOf A2
          have a3 := hnw.cellOf A3
          have a4 := hnw.cellOf A4
          clear hnw
          go_simp
          try rfl
        try simp only [List.getElem_toArray, List.getElem_cons_zero, List.getElem_cons_succ, Act.put, List.setIfInBounds_toArray, List.set_cons_zero, List.set_cons_succ]
        have nK := HNK.out.trans HK2.out
        have n5 := ((New.refl W3).drew).alloc (.cells #[.int .i64 (d 0 + ds qi (1 + qj))] 3)
        have hS2 : New w (W3.drew.alloc (.cells #[.int .i64 (d 0 + ds qi (1 + qj))] 3)) ∧ (W3.drew.alloc (.cells #[.int .i64 (d 0 + ds qi (1 + qj))] 3)).cell? ⟨wr.heap.size, 0, none⟩ = some (.int .i64 qi) := ⟨(HN.out.trans HN2.out).trans n5, (HW3.out.keep n5).cell rfl⟩
        clear hS
        refine wpAnyH_ready (rs := [19]) (by kernel_rfl) (by simp) ?_
        refine AllReadyH.cons rfl (fun K hK => ?_) AllReadyH.nil
        go_simp
        refine hK.out _ _ hS2 (fun hS => ?_)
        clear hK K hS
        try simp only [List.getElem_toArray, List.getElem_cons_zero, List.getElem_cons_succ, Act.put, List.setIfInBounds_toArray, List.set_cons_zero, List.set_cons_succ]
        have hq0 := owns_keep HO.out (HK2.out.trans n5)
        have hm1 : k + 1 ≤ maxLen := by unfold maxLen; omega
        have hm2 : (k + 1) * 8 ≤ 140737488355328 := by omega
        have hbs : w.heap.size ≤ (W3.drew.alloc (.cells #[.int .i64 (d 0 + ds qi (1 + qj))] 3)).heap.size := hS2.1.size
        refine wpAnyH_ready (rs := [20]) (by kernel_rfl) (by simp) ?_
        refine AllReadyH.cons rfl (fun K hK => ?_) AllReadyH.nil
        refine step_append_lies _ rfl (.tmp 40) (.tmp 59) 26 rfl w.heap.size 3 t0 (.int .i64 0) 1 8 Tryd.underlying26 HI.out.1 HI.out.2.1 HI.out.2.2.1 HI.out.2.2.2 rfl (by decide) (.slice VA k vc) k _ rfl hq0 ⟨W3.heap.size, 0, none⟩ 1 1 [.int .i64 (d 0 + ds qi (1 + qj))] rfl rfl (World.news_of_block (cs := #[.int .i64 (d 0 + ds qi (1 + qj))]) (heap_alloc_new W3.drew _)) (by simp [Value.oneCell']) (by decide) hm1 hm2 hbs _ rfl ?_
        intro g5 cap w7 ho5 hg5 _ _
        have hn7w : New w w7 := Below.trans hS2.1 (grown_below hq0 hg5 hbs)
        have r7 : RowIs w7 wr.heap.size 53 [.int .i64 qi, .int .i64 qj] := (HW3.out.keep n5).grown hg5 (owns_ne hq0 (HW3.out.keep n5) (by decide))
        have hn7 : New W1 w7 := by
          have h1 := nK.trans n5
          have hz : W1.heap.size = w.heap.size + 1 := HSZ.out
          refine Below.trans h1 ⟨hg5.os, hg5.tape, hg5.output, hg5.size, fun x hx => hg5.block x (Nat.lt_of_lt_of_le hx h1.size) (fun e => ?_)⟩
          rcases HO.out.2 with ⟨e3, _⟩ | ⟨g', cap', cur, e3, hbg, hh, _⟩
          · rw [e3] at e; simp [Value.ownBlock] at e
          · rw [e3] at e
            have e4 : x = g' := by simpa [Value.ownBlock] using e
            have h2 := (HR.out.keep HNK.out)
            unfold RowIs at h2
            have : g' ≠ w.heap.size := fun e5 => by rw [e5, h2] at hh; cases hh
            omega
        refine hK.out _ _ ⟨hn7w, r7.cell rfl⟩ (fun hS => ?_)
        clear hK K
        try simp only [List.getElem_toArray, List.getElem_cons_zero, List.getElem_cons_succ, Act.put, List.setIfInBounds_toArray, List.set_cons_zero, List.set_cons_succ]
        refine wpAnyH_take (i := 21) (v := ?_) rfl (by kernel_rfl) (by kernel_rfl) (by kernel_rfl) (fun _ _ _ h => h) (Or.inl ⟨by rfl, fun w' hS' => ?_⟩) hS ?_
        rotate_left
        · clear hS'
          go_simp
          try rfl
        try simp only [List.getElem_toArray, List.getElem_cons_zero, List.getElem_cons_succ, Act.put, List.setIfInBounds_toArray, List.set_cons_zero, List.set_cons_succ]
        refine wpAnyH_done (by kernel_rfl) ?_ _
        unfold NormQ
        dsimp only [Exit.then]
        have HN7 := Lib.hid hn7
        have HO7 := Lib.hid ho5
        clear hn7 ho5 hg5 hS hn7w r7 hq0 n5 hS2 nK
        go_wp2_with fail
        go_roundw
        case rel => exact ⟨k + 1, by omega, rfl, HN7.out, by rw [HSU.out, List.map_append, HXS.out]; exact (show _ = _ from HFE.out) ▸ HO7.out⟩
        case measure => simp [intOf]; omega
    · obtain rfl : k = m := by omega
      go_wp2_with fail
      go_ret
      refine ⟨_, rfl, HN.out.trans hn, ?_⟩
      rw [List.take_of_length_le (by omega)] at ho
      exact ho
end Go.Proofs.YtodmbcoobjcooaaDoor
