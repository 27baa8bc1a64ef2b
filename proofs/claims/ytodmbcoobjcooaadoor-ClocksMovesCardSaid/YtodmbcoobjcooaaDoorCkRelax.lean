/-
  relax of the program, at a net that closes: the wave comes to rest. Condition: the wave lies in memory.
-/
import Derived.Test.YtodmbcoobjcooaaDoorCkWaves
namespace Go.Proofs.YtodmbcoobjcooaaDoor
open Go Go.RowKit Go.Shelf
attribute [local go_sem] Oper.semAt_some
set_option maxRecDepth 100000 in
set_option maxHeartbeats 8000000 in
theorem ck_relax {w0 W : World} {g sb bb n src : Nat} {EA : Option Addr} {ec : Nat} {E : List Eg} {d b : Nat → Int} (h : WavA w0 W g sb bb n EA ec E d b) (hE : EOk E n 22001) (hcl : Closes E) (hn : n ≤ 26000) (hel : E.length ≤ 200000) (hi : WI E n src d b) :
    Calls Tryd.prog 121 #[.pointer (some ⟨g, 0, none⟩)] W fun e w' => e = .returned (.tuple #[]) ∧ ∃ d' b', WavA w0 w' g sb bb n EA ec E d' b' ∧ WI E n src d' b' ∧ Calm E d' ∧ KeepBut sb bb W w' := by
  have nW := (New.refl W).alloc (.cells #[.pointer (some ⟨g, 0, none⟩)] 125)
  have h0 : RlX w0 W _ g sb bb n src W.heap.size EA ec E [] d b := ⟨h.keep nW, hi, .of_new nW, RowIs.new W _ _, ⟨by have := h.sums.lt; omega, by have := h.bys.lt; omega⟩, fun _ h => by cases h⟩
  have hw0 : w0.heap.size ≤ W.heap.size := h.new.size
  have HE := Lib.hid hE
  have HCL := Lib.hid hcl
  have H0 := Lib.hid h0
  have HW0 := Lib.hid hw0
  clear nW h0 hi hE hcl hw0 h
  refine (callsIn_wide (n := 6)).1 ?_
  refine callsIn_of_wp_marks Tryd.func121 rfl trivial ?_ rfl
  simp only [Tryd.ntmps121, List.size_toArray, List.length_cons, List.length_nil, Nat.reduceAdd, Nat.reduceSub, Array.replicate_succ, Array.replicate_zero, List.push_toArray, List.append_toArray, List.nil_append, List.cons_append]
  gi_wp2_with fail
  refine wpIn_wide.2 (wp_scope_straight ((wpIn_wide (n := 6)).1 ?_))
  refine wpIn_seq (wpIn_label ?_)
  gi_wp2_with fail
  refine wpIn_loop_ghost_k (fun m a wr => ∃ Ds d b, a.defers = marks Ds ∧ a.tmps.size = 41 ∧ a.tmps[0]? = some (.pointer (some ⟨g, 0, none⟩)) ∧ a.tmps[1]? = some (.pointer (some ⟨W.heap.size, 0, none⟩)) ∧ Ds.Nodup ∧ (∀ D ∈ Ds, W.heap.size ≤ D) ∧ RlX w0 W wr g sb bb n src W.heap.size EA ec E Ds d b ∧ totN n (n * 22001) d = m) (totN n (n * 22001) d) ⟨[], d, b, rfl, rfl, rfl, rfl, List.nodup_nil, (fun _ h => by cases h), H0.out, rfl⟩ ?_
  clear H0
  rintro m ⟨cs, dfs⟩ wr ⟨Ds, d0, b0, hdf, hsz, ht0, ht1, hnd, hDs, hx, rfl⟩ J K hJ hK
  dsimp only at hdf hsz ht0 ht1
  subst hdf
  obtain ⟨c0, c1, c2, c3, c4, c5, c6, c7, c8, c9, c10, c11, c12, c13, c14, c15, c16, c17, c18, c19, c20, c21, c22, c23, c24, c25, c26, c27, c28, c29, c30, c31, c32, c33, c34, c35, c36, c37, c38, c39, c40, rfl⟩ := array41 hsz
  simp only [List.getElem?_toArray, List.getElem?_cons_zero, List.getElem?_cons_succ, Option.some.injEq] at ht0 ht1
  subst ht0
  subst ht1
  clear hsz
  dsimp only
  have HX := Lib.hid hx
  have HND := Lib.hid hnd
  have HDS := Lib.hid hDs
  have HJ := Lib.hid hJ
  have HK := Lib.hid hK
  have z0 := hx.box.cell (i := 0) rfl
  have z1 := hx.wav.row.cell (i := 0) rfl
  clear hx hnd hDs hJ hK
  have hT1 : Fence.wide.fn 127 := trivial
  have hT2 : Fence.wide.fn 129 := trivial
  have hT3 : Fence.wide.fn 130 := trivial
  have hT4 : Fence.wide.fn 128 := trivial
  have hdd : ∀ k : Nat, (Fence.wide.depth.isSome = true → 1 ≤ k) := fun k h => by cases h
  gi_wp2_with fail
  clear z0 z1
  gi_loopw [10] (fun i wr => ∃ (k : Nat) (d1 b1 : Nat → Int), k ≤ E.length ∧ i = .int .i64 k ∧ RlX w0 W wr g sb bb n src W.heap.size EA ec E Ds d1 b1 ∧ Thru E n k d0 d1) (fun i _ => E.length - (intOf i).toNat)
  case atStart => exact ⟨0, d0, b0, Nat.zero_le _, rfl, HX.out, .start E n d0⟩
  case round =>
    obtain ⟨k, d1, b1, hk, rfl, hx1, ht1⟩ := hrel
    clear HX
    have HX1 := Lib.hid hx1
    have HT1 := Lib.hid ht1
    by_cases hlt : k < E.length
    · have z0 := hx1.box.cell (i := 0) rfl
      have hlt' : (k : Int) < (E.length : Int) := by omega
      clear hx1 ht1
      gi_wp2_with ((try refine ⟨hdd _, ?_⟩); gi_at_call 127; refine (callsIn_wide.2 (HX1.out.ck_lower HE.out HCL.out hn k hlt)).mono ?_; rintro e w2 ⟨rfl, k2, x2⟩)
      go_roundw
      case rel => exact ⟨k + 1, _, _, by omega, rfl, x2, HT1.out.next (HX1.out.wi.step (by decide) HE.out HCL.out hlt).2⟩
      case measure => simp [intOf]; omega
    · obtain rfl : k = E.length := by omega
      have z0 := hx1.box.cell (i := 0) rfl
      have z1 := hx1.wav.row.cell (i := 0) rfl
      clear hx1 ht1
      gi_wp2_with ((try refine ⟨hdd _, ?_⟩); gi_at_call 128; refine (ck_Backward _ _ _ _ _).mono ?_; rintro e w2 ⟨rfl, rfl⟩)
      have nb := (New.refl wr).alloc (.cells #[.slice EA E.length ec] 149)
      have rb := RowIs.new wr 149 [.slice EA E.length ec]
      have HXL := Lib.hid (HX1.out.new nb)
      have hs1 := HX1.out.wav.sums.lt
      have hs2 := HX1.out.wav.bys.lt
      have HRB : Hid (SRow (SafeP sb bb) _ wr.heap.size 149 [.slice EA E.length ec]) := Lib.hid ⟨⟨⟨_, _, _, rb⟩, by omega, by omega⟩, rb⟩
      have HDL : Hid (∀ D ∈ Ds, D < (wr.alloc (.cells #[.slice EA E.length ec] 149)).heap.size) := Lib.hid fun D hm => (Array.getElem?_eq_some_iff.1 (HXL.out.ds D hm)).1
      clear HX1 z0 z1 nb rb hk hlt
      generalize hWL : wr.alloc (.cells #[.slice EA E.length ec] 149) = WL at *
      have hlL : wr.heap.size < WL.heap.size := by rw [← hWL]; simp
      have HLL := Lib.hid (And.intro hs1 (And.intro hs2 hlL))
      clear hWL hs1 hs2 hlL
      have HWL : Hid (W.heap.size ≤ WL.heap.size) := Lib.hid HXL.out.keep.size
      have HSEQ := Lib.hid (backward_stops (n0 := w0.heap.size) (sb := sb) (bb := bb) E EA ec wr.heap.size WL w0 rfl HXL.out.wav.new (by have := HLL.out; omega) HXL.out.wav.egs HRB.out (6 - 1))
      refine range_two 22 23 3 (fun x : IxE E => .int .i64 x.1) (fun x : IxE E => .agg #[.int .i64 (eAt E x.1).1, .int .i64 (eAt E x.1).2.1, .int .i64 (eAt E x.1).2.2]) rfl (by omega) (gf := 131) (lb := #[.pointer (some ⟨wr.heap.size, 0, none⟩)]) rfl trivial (enters_of Tryd.func131 (by kernel_rfl) rfl)
        HSEQ.out (fun {A B C} h k => Ev.trans h k) (fun W' l o o' hl h1 h2 _ => evP_put (B := WL.heap.size) hl (by have := HWL.out; have := HW0.out; omega) h1 h2) (Below.refl _ _) (fun _ => rfl)
        (fun (_ : List (IxE E)) W' => ∃ d1 b1, RlX w0 W W' g sb bb n src W.heap.size EA ec E Ds d1 b1 ∧ Thru E n E.length d0 d1 ∧ WL.heap.size ≤ W'.heap.size) (fun _ _ _ => False)
        (fun pre X Y row hs hg hr => by
          obtain ⟨d1, b1, h1, h2, h3⟩ := hs
          exact ⟨d1, b1, rlX_own (β := List (IxE E)) w0 W g sb bb n src W.heap.size EA ec E Ds WL HWL.out (Nat.le_trans HW0.out HWL.out) HDL.out d1 b1 pre X Y row h1 hg hr, h2, Nat.le_trans h3 hg.size⟩)
        (fun _ _ _ _ _ hs _ _ => hs) ⟨d1, b1, HXL.out, HT1.out, Nat.le_refl _⟩ ?assign ?body ?done ?stop
      case stop =>
        rintro D c pre W' _ _ h _
        exact h.elim
      case assign =>
        intro l x W' K' hK'
        have HKK := Lib.hid hK'
        clear hK'
        simp only [actT, List.setIfInBounds_toArray, List.set_cons_zero, List.set_cons_succ] at HKK
        unfold ixV
        gi_wp2_with fail
        exact HKK.out
      case body =>
        rintro l pre ⟨i, hi⟩ W' ⟨d2, b2, hx2, ht2, hsz2⟩ hlen
        have HX2 := Lib.hid hx2
        have HT2 := Lib.hid ht2
        have z0 := hx2.box.cell (i := 0) rfl
        clear hx2 ht2
        simp only [actT, List.setIfInBounds_toArray, List.set_cons_zero, List.set_cons_succ]
        gi_wp2_with ((try refine ⟨hdd _, ?_⟩); gi_at_call 127; refine (callsIn_wide.2 (HX2.out.ck_lower HE.out HCL.out hn i hi)).mono ?_; rintro e w2 ⟨rfl, k2, x2⟩)
        refine ⟨k2.keeps HX2.out.wav.sums HX2.out.wav.bys, k2.ev HX2.out.wav.hs HX2.out.wav.hb (by have := HWL.out; have := HW0.out; omega), _, _, x2, HT2.out.same (HX2.out.wi.step (by decide) HE.out HCL.out hi).2, Nat.le_trans hsz2 k2.size⟩
      case done =>
        rintro D ys W' hD _ ⟨d2, b2, hx2, ht2, hsz2⟩ hKD
        have HX2 : Hid (RlX w0 W W' g sb bb n src W.heap.size EA ec E (D :: Ds) d2 b2) := Lib.hid ⟨hx2.wav, hx2.wi, hx2.keep, hx2.box, hx2.bne, fun D' hm => by
          rcases List.mem_cons.1 hm with rfl | hm
          · exact hKD
          · exact hx2.ds D' hm⟩
        have HT2 := Lib.hid ht2
        have HN2 : Hid ((D :: Ds).Nodup) := Lib.hid (List.nodup_cons.2 ⟨fun hm => by have := HDL.out D hm; omega, HND.out⟩)
        have HD2 : Hid (∀ D' ∈ D :: Ds, W.heap.size ≤ D') := Lib.hid fun D' hm => by
          rcases List.mem_cons.1 hm with rfl | hm
          · exact Nat.le_trans HWL.out hD
          · exact HDS.out D' hm
        have z0 := hx2.box.cell (i := 0) rfl
        have z1 := hx2.wav.row.cell (i := 0) rfl
        clear hx2 ht2 hsz2 hKD hD HXL HRB HDL HSEQ HT1
        gi_wp2_with fail
        clear z0 z1
        gi_loopw [32] (fun i wr => ∃ (k : Nat), k ≤ E.length ∧ i = .int .i64 k ∧ RlX w0 W wr g sb bb n src W.heap.size EA ec E (D :: Ds) d2 b2 ∧ ∀ j, j < k → lowB E d2 j = false) (fun i _ => E.length - (intOf i).toNat)
        case atStart => exact ⟨0, Nat.zero_le _, rfl, HX2.out, fun _ h => absurd h (Nat.not_lt_zero _)⟩
        case round =>
          obtain ⟨k, hk, rfl, hx3, hlo⟩ := hrel
          clear HX2
          have HX3 := Lib.hid hx3
          have HLO := Lib.hid hlo
          by_cases hlt : k < E.length
          · have z0 := hx3.box.cell (i := 0) rfl
            have hlt' : (k : Int) < (E.length : Int) := by omega
            have HCK := Lib.hid (ck_lowers hx3.wav HE.out k hlt (hx3.wi.rng HE.out HCL.out hn))
            clear hx3 hlo
            cases hlb : lowB E d2 k with
            | false =>
              rw [hlb] at HCK
              gi_wp2_with ((try refine ⟨hdd _, ?_⟩); gi_at_call 129; refine (callsIn_wide.2 HCK.out).mono ?_; rintro e w2 ⟨rfl, n2⟩)
              go_roundw
              case rel =>
                refine ⟨k + 1, by omega, rfl, HX3.out.new n2, fun j hj => ?_⟩
                by_cases e : j = k
                · exact e ▸ hlb
                · exact HLO.out j (by omega)
              case measure => simp [intOf]; omega
            | true =>
              rw [hlb] at HCK
              have HLV : Hid (∀ w2, New wr w2 → Calls Tryd.prog 130 #[.pointer (some ⟨g, 0, none⟩)] w2 fun e w' => e = .returned (.tuple #[]) ∧ New w2 w') := Lib.hid fun w2 n2 => ck_leave (HX3.out.wav.keep n2) HE.out HX3.out.wi.byOk (by omega) (HCL.out.noloop HX3.out.wi)
              have HZ : Hid (∀ w2, New wr w2 → w2.cell? ⟨W.heap.size, 0, none⟩ = some (.pointer (some ⟨g, 0, none⟩))) := Lib.hid fun w2 n2 => (HX3.out.new n2).box.cell rfl
              have HTT : Hid (totN n (n * 22001) d2 < totN n (n * 22001) d0) := Lib.hid (by
                rcases HT2.out with h | ⟨e, h⟩
                · exact h
                · rw [e] at hlb; rw [h k hlt] at hlb; cases hlb)
              gi_wp2_with (first
                | ((try refine ⟨hdd _, ?_⟩); gi_at_call 129; refine (callsIn_wide.2 HCK.out).mono ?_; rintro e w2 ⟨rfl, n2⟩; have z2 := HZ.out w2 n2)
                | ((try refine ⟨hdd _, ?_⟩); gi_at_call 130; refine (callsIn_wide.2 (HLV.out _ (by assumption))).mono ?_; rintro e w3 ⟨rfl, n3⟩))
              exact HK.out _ _ (Handed.intro _ HTT.out (HJ.out _ _ _ ⟨D :: Ds, d2, b2, rfl, rfl, rfl, rfl, HN2.out, HD2.out, (HX3.out.new n2).new n3, rfl⟩))
          · obtain rfl : k = E.length := by omega
            clear hx3 hlo
            gi_wp2_with fail
            show LeavesInM Fence.wide 6 Tryd.prog _ _ _ (marks (D :: Ds)) .returning _
            refine leaves_marks (D :: Ds) _ HX3.out.ds HN2.out (fun w' hs => ?_)
            obtain ⟨r1, r2⟩ := HX3.out.shut HN2.out HW0.out HD2.out hs
            exact ⟨_, results_none rfl _ _ _, rfl, _, _, r1, HX3.out.wi, calm_of HLO.out, r2⟩
end Go.Proofs.YtodmbcoobjcooaaDoor
