/-
  Since of the specification: the days around a day with its place. Conditions: the texts are in memory, the call sign has at most 100000 bytes.
-/
import Derived.Test.YtkbdmdnahphkkaaGreatDoorTabRefP
import Derived.Test.YtkbdmdnahphkkaaGreatDoorTabSince
namespace Go.Proofs.YtkbdmdnahphkkaaGreatDoor
open Go.RowKit
theorem SpanI.step {P : Int → Prop} {D : Int → Prop} {day lo hi : Int} (h : SpanI P D day lo hi) (d lo' hi' : Int)
    (h1 : (0 < d ∧ d ≤ day ∧ ¬ P (d - 1) ∧ lo' = max lo d) ∨ (¬ (0 < d ∧ d ≤ day ∧ ¬ P (d - 1)) ∧ lo' = lo))
    (h2 : (day < d ∧ d ≤ 99999 ∧ ¬ P d ∧ hi' = min hi (d - 1)) ∨ (¬ (day < d ∧ d ≤ 99999 ∧ ¬ P d) ∧ hi' = hi)) : SpanI P (fun x => D x ∨ x = d) day lo' hi' := by
  refine ⟨?_, ?_, ?_, ?_⟩
  · rcases h1 with ⟨a, b, c, rfl⟩ | ⟨_, rfl⟩
    · right
      rcases h.lo0 with e | ⟨e1, e2, e3⟩
      · rw [e, show max 0 d = d by omega]; exact ⟨a, b, c⟩
      · by_cases q : lo ≤ d
        · rw [show max lo d = d by omega]; exact ⟨a, b, c⟩
        · rw [show max lo d = lo by omega]; exact ⟨e1, e2, e3⟩
    · exact h.lo0
  · rcases h2 with ⟨a, b, c, rfl⟩ | ⟨_, rfl⟩
    · right
      have hd : ¬ P (d - 1 + 1) := by rw [show d - 1 + 1 = d by omega]; exact c
      rcases h.hi0 with e | ⟨e1, e2, e3⟩
      · rw [e, show min 99999 (d - 1) = d - 1 by omega]; exact ⟨by omega, by omega, hd⟩
      · by_cases q : hi ≤ d - 1
        · rw [show min hi (d - 1) = hi by omega]; exact ⟨e1, e2, e3⟩
        · rw [show min hi (d - 1) = d - 1 by omega]; exact ⟨by omega, by omega, hd⟩
    · exact h.hi0
  · intro x hx a b c
    rcases hx with hx | rfl
    · have := h.lo1 x hx a b c
      rcases h1 with ⟨_, _, _, rfl⟩ | ⟨_, rfl⟩ <;> omega
    · rcases h1 with ⟨_, _, _, rfl⟩ | ⟨hn, _⟩
      · omega
      · exact (hn ⟨a, b, c⟩).elim
  · intro x hx a b c
    rcases hx with hx | rfl
    · have := h.hi1 x hx a b c
      rcases h2 with ⟨_, _, _, rfl⟩ | ⟨_, rfl⟩ <;> omega
    · rcases h2 with ⟨_, _, _, rfl⟩ | ⟨hn, _⟩
      · omega
      · exact (hn ⟨a, b, c⟩).elim
theorem SpanI.imp {P : Int → Prop} {D D' : Int → Prop} {day lo hi : Int} (h : SpanI P D day lo hi) (hd : ∀ x, D' x → D x) : SpanI P D' day lo hi :=
  ⟨h.lo0, h.hi0, fun x hx => h.lo1 x (hd x hx), fun x hx => h.hi1 x (hd x hx)⟩
theorem turn_take {l : List Rw} {k : Nat} {r : Rw} (h : l[k]? = some r) (x : Int) : isTurn (l.take (k + 1)) x ↔ (isTurn (l.take k) x ∨ x = r.frm) ∨ x = r.til + 1 := by
  unfold isTurn
  rw [List.take_add_one, h, Option.toList_some]
  constructor
  · rintro ⟨y, hy, e⟩
    rcases List.mem_append.1 hy with hy | hy
    · exact .inl (.inl ⟨y, hy, e⟩)
    · simp at hy
      subst hy
      rcases e with e | e
      · exact .inl (.inr e)
      · exact .inr e
  · rintro ((⟨y, hy, e⟩ | e) | e)
    · exact ⟨y, List.mem_append_left _ hy, e⟩
    · exact ⟨r, by simp, .inl e⟩
    · exact ⟨r, by simp, .inr e⟩
/-- The specification's out while its loops run. -/
def OutAt (w wr : World) (g8 g10 : Nat) (p : Int × Int × Int) (lo hi : Int) : Prop :=
  New w wr ∧ wr.heap[w.heap.size]? = some (.cells #[.int .i64 0, .int .i64 0] 36 (0, 0)) ∧ PlIn wr g8 p ∧ wr.heap[g10]? = some (.cells #[.int .i64 lo, .int .i64 hi] 36 (0, 0))
theorem OutAt.keep {w wr wv : World} {g8 g10 : Nat} {p : Int × Int × Int} {lo hi : Int} (h : OutAt w wr g8 g10 p lo hi) (k : New wr wv) : OutAt w wv g8 g10 p lo hi :=
  ⟨h.1.trans k, heap_keep k h.2.1, h.2.2.1.keep k, heap_keep k h.2.2.2⟩
theorem OutAt.setLo {w wr : World} {g8 g10 : Nat} {p : Int × Int × Int} {lo hi : Int} (h : OutAt w wr g8 g10 p lo hi) (h1 : w.heap.size < g10) (h2 : g8 ≠ g10) (x : Int) : OutAt w (wr.setCell ⟨g10, 0, none⟩ (.int .i64 x)) g8 g10 p x hi := by
  refine ⟨h.1.setCell (Nat.le_of_lt h1) _, ?_, ?_, ?_⟩
  · rw [heap_setCell_other _ _ _ _ (by simp; omega)]; exact h.2.1
  · unfold PlIn
    rw [heap_setCell_other _ _ _ _ (by simp; exact h2)]; exact h.2.2.1
  · rw [heap_setCell_same _ _ _ _ _ _ h.2.2.2]; rfl
theorem OutAt.setHi {w wr : World} {g8 g10 : Nat} {p : Int × Int × Int} {lo hi : Int} (h : OutAt w wr g8 g10 p lo hi) (h1 : w.heap.size < g10) (h2 : g8 ≠ g10) (x : Int) : OutAt w (wr.setCell ⟨g10, 1, none⟩ (.int .i64 x)) g8 g10 p lo x := by
  refine ⟨h.1.setCell (Nat.le_of_lt h1) _, ?_, ?_, ?_⟩
  · rw [heap_setCell_other _ _ _ _ (by simp; omega)]; exact h.2.1
  · unfold PlIn
    rw [heap_setCell_other _ _ _ _ (by simp; exact h2)]; exact h.2.2.1
  · rw [heap_setCell_same _ _ _ _ _ _ h.2.2.2]; rfl
/-- The place of a day against the one that is asked for. -/
theorem pl3_cmp (o : Option (Int × Int × Int)) (p : Int × Int × Int) (hp : 1 ≤ p.1) : ∃ x : Int × Int × Int, pl3 o = .agg #[.int .i64 x.1, .int .i64 x.2.1, .int .i64 x.2.2] ∧ ((o = some p ∧ x = p) ∨ (¬ o = some p ∧ ((x.1 == p.1) = false ∨ (x.2.1 == p.2.1) = false ∨ (x.2.2 == p.2.2) = false))) := by
  cases o with
  | none => exact ⟨(0, 0, 0), rfl, .inr ⟨by simp, .inl (by rw [beq_eq_false_iff_ne]; show ¬ (0 : Int) = p.1; omega)⟩⟩
  | some x =>
    refine ⟨x, rfl, ?_⟩
    rcases cmp3 x p with rfl | ⟨h1, h2⟩
    · exact .inl ⟨rfl, rfl⟩
    · exact .inr ⟨by simpa using h1, h2⟩
set_option maxRecDepth 100000 in
set_option maxHeartbeats 8000000 in
theorem ref_Since (A : Option Addr) (n c : Nat) (l : List Rw) (call : Bytes) (d : Int) (w : World) (hl : RowsAt w A n l) (hn : n ≤ 9223372036854775807) (ht : TextsIn l) (hc : call.length ≤ 100000) :
    Calls Tryz.prog 18 #[.slice A n c, .string (B call), .int .i64 d] w fun e w' => ∃ lo hi er : Int, e = .returned (.tuple #[.agg #[.int .i64 lo, .int .i64 hi], .int .i64 er]) ∧ New w w' ∧ sinceP l call d lo hi er := by
  have HL := Lib.hid hl
  have HLN := Lib.hid hl.1
  have HN0 := Lib.hid ((New.refl w).alloc (.cells #[.int .i64 0, .int .i64 0] 36))
  have HS0 := Lib.hid (sp_new w 0 0)
  clear hl
  go_enter Tryz.func18, Tryz.ntmps18
  go_wp2_with fail
  refine (ref_PlaceOf A n c l call d _ (HL.out.keep HN0.out) hn ht hc).mono ?_
  rintro e w1 ⟨rfl, h1⟩
  have HN1 := Lib.hid (HN0.out.trans h1)
  have HS1 := Lib.hid (heap_keep h1 HS0.out)
  clear h1
  by_cases h0 : (plR l call d).2 = 0
  · obtain ⟨q, p, hx, hq, hr, hpl⟩ : ∃ q p, askV l (splitV call) d = 0 ∧ splitV call = some q ∧ atV l call (stemV q) d = some p ∧ plR l call d = (some p, 0) := by
      by_cases hx : askV l (splitV call) d = 0
      · obtain ⟨_, _, q, hq⟩ := ask_zero hx
        cases hr : atV l call (stemV q) d with
        | none => rw [plR_none hx hq hr] at h0; cases h0
        | some p => exact ⟨q, p, hx, hq, hr, plR_some hx hq hr⟩
      · rw [plR_bad rfl hx] at h0
        exact (hx h0).elim
    have HX := Lib.hid hx
    have HQ := Lib.hid hq
    have HR := Lib.hid hr
    obtain ⟨htb, hdy, -⟩ := ask_zero hx
    have HV := Lib.hid (rows_of_tab htb)
    have HDY := Lib.hid (withinB_iff.1 hdy)
    have h4 : n ≤ 400 := by have := rowsB_len HV.out; rw [HLN.out] at this; exact this
    have HP1 := Lib.hid (at_pos HV.out hr)
    rw [hpl, pl3_some]
    clear hx hq hr hpl htb hdy h0
    have HO : Hid (OutAt w ((w1.alloc (.cells #[.int .i64 p.1, .int .i64 p.2.1, .int .i64 p.2.2] 30)).alloc (.cells #[.int .i64 0, .int .i64 99999] 36)) w1.heap.size (w1.heap.size + 1) p 0 99999) := by
      have k1 := (New.refl w1).alloc (.cells #[.int .i64 p.1, .int .i64 p.2.1, .int .i64 p.2.2] 30)
      have k2 := (New.refl (w1.alloc (.cells #[.int .i64 p.1, .int .i64 p.2.1, .int .i64 p.2.2] 30))).alloc (.cells #[.int .i64 0, .int .i64 99999] 36)
      refine Lib.hid ⟨HN1.out.trans (k1.trans k2), heap_keep (k1.trans k2) HS1.out, heap_keep k2 (pl_new w1 p.1 p.2.1 p.2.2), ?_⟩
      have h := sp_new (w1.alloc (.cells #[.int .i64 p.1, .int .i64 p.2.1, .int .i64 p.2.2] 30)) 0 99999
      simpa using h
    have HG : Hid (w.heap.size < w1.heap.size) := Lib.hid (Array.getElem?_eq_some_iff.1 HS1.out).1
    clear HN1 HS1 HN0 HS0
    go_wp2_with fail
    generalize (w1.alloc (.cells #[.int .i64 p.1, .int .i64 p.2.1, .int .i64 p.2.2] 30)).alloc (.cells #[.int .i64 0, .int .i64 99999] 36) = W at *
    generalize w1.heap.size = g at *
    generalize hst : stemV q = stem at *
    have HST := Lib.hid hst
    clear hst
    have HPC : Hid (∀ (z : Int) (u : World), New w u → Calls Tryz.prog 38 #[.slice A n c, .string (B call), .int .i64 z] u fun e w' => e = .returned (pl3 (atV l call stem z)) ∧ New u w') :=
      Lib.hid (fun z u hu => by rw [← HST.out]; exact ref_place A n c l call q z u (HL.out.keep hu) HV.out HQ.out hc)
    go_loopw [11] (fun x wr => ∃ i : Nat, i ≤ n ∧ x = .int .i64 i ∧ ∃ lo hi : Int, OutAt w wr g (g + 1) p lo hi ∧ Hid (SpanI (fun x => atV l call stem x = some p) (isTurn (l.take i)) d lo hi)) (fun x _ => n - (intOf x).toNat)
    case atStart => exact ⟨0, by omega, rfl, 0, 99999, HO.out, Lib.hid ((SpanI.start _ d).imp (fun x h => by obtain ⟨r, hr, _⟩ := h; simp at hr))⟩
    case round =>
      obtain ⟨i, hi, rfl, lo, hig, hout, HSI⟩ := hrel
      have HOUT := Lib.hid hout
      clear hout
      by_cases hlt : i < n
      · obtain ⟨bb, off, r, rfl, hr, -, hrow⟩ := HL.out.row HOUT.out.1 hlt
        obtain ⟨c0, c1, c2, c3, c4, c5, c6⟩ := hrow
        have hq1 : (0 : Int) ≤ (i : Int) := by omega
        have hq2 : (i : Int) < (n : Int) := by omega
        have hdays := rows_days HV.out (List.mem_of_getElem? hr)
        have hw : wrap64 (r.til + 1) = r.til + 1 := by unfold wrap64; omega
        have HTT := Lib.hid (turn_take hr)
        clear hr c0 c1 c2 c3 c6
        go_wp2_with fail
        go_region
        have hgd : g + 1 < wr.heap.size := (Array.getElem?_eq_some_iff.1 HOUT.out.2.2.2).1
        have HGD := Lib.hid hgd
        have HB0 : Hid (((wr.alloc (.cells #[.int .i64 r.frm, .int .i64 (r.til + 1)] 3)).drew).heap[wr.heap.size]? = some (.cells #[.int .i64 r.frm, .int .i64 (r.til + 1)] 3 (0, 0))) := Lib.hid (heap_alloc_new wr _)
        have HO1 := Lib.hid (HOUT.out.keep (((New.refl wr).alloc (.cells #[.int .i64 r.frm, .int .i64 (r.til + 1)] 3)).drew))
        clear hgd c4 c5 hw
        go_wp2_with fail
        generalize ((wr.alloc (.cells #[.int .i64 r.frm, .int .i64 (r.til + 1)] 3)).drew) = W1 at *
        generalize wr.heap.size = gd at *
        go_loopw [13] (fun x wv => ∃ k : Nat, k ≤ 2 ∧ x = .int .i64 k ∧ wv.heap[gd]? = some (.cells #[.int .i64 r.frm, .int .i64 (r.til + 1)] 3 (0, 0)) ∧ ∃ lo hi : Int, OutAt w wv g (g + 1) p lo hi ∧ Hid (SpanI (fun x => atV l call stem x = some p) (fun x => isTurn (l.take i) x ∨ (1 ≤ k ∧ x = r.frm) ∨ (2 ≤ k ∧ x = r.til + 1)) d lo hi)) (fun x _ => 2 - (intOf x).toNat)
        case atStart => exact ⟨0, by omega, rfl, HB0.out, lo, hig, HO1.out, Lib.hid (HSI.out.imp (fun x h => by
          rcases h with h | ⟨h, _⟩ | ⟨h, _⟩
          · exact h
          · omega
          · omega))⟩
        case round =>
          obtain ⟨k, hk, rfl, hbk, lo2, hi2, hout2, HSI2⟩ := hrel
          have HOUT2 := Lib.hid hout2
          have HBK := Lib.hid hbk
          clear hout2 hbk
          by_cases hk2 : k < 2
          · obtain ⟨z, hz, hzr, hzD⟩ : ∃ z : Int, wr.cell? ⟨gd, k, none⟩ = some (.int .i64 z) ∧ (0 ≤ z ∧ z ≤ 100000) ∧ ∀ x, ((isTurn (l.take i) x ∨ (1 ≤ k + 1 ∧ x = r.frm) ∨ (2 ≤ k + 1 ∧ x = r.til + 1)) → ((isTurn (l.take i) x ∨ (1 ≤ k ∧ x = r.frm) ∨ (2 ≤ k ∧ x = r.til + 1)) ∨ x = z)) := by
              rcases (show k = 0 ∨ k = 1 by omega) with rfl | rfl
              · refine ⟨r.frm, by rw [cell_of_row _ _ 0 _ _ _ HBK.out]; rfl, by omega, fun x h => ?_⟩
                rcases h with h | ⟨_, h⟩ | ⟨h, _⟩
                · exact .inl (.inl h)
                · exact .inr h
                · omega
              · refine ⟨r.til + 1, by rw [cell_of_row _ _ 1 _ _ _ HBK.out]; rfl, by omega, fun x h => ?_⟩
                rcases h with h | ⟨_, h⟩ | ⟨_, h⟩
                · exact .inl (.inl h)
                · exact .inl (.inr (.inl ⟨by omega, h⟩))
                · exact .inr h
            obtain ⟨hz0, hz9⟩ := hzr
            have HZD := Lib.hid hzD
            have HDN := HDY.out
            have hk3 : (0 : Int) ≤ (k : Int) := by omega
            have hk4 : (k : Int) < 2 := by omega
            clear hzD
            obtain ⟨p0, p1, p2, -, -, -⟩ := three_all HOUT2.out.2.2.1
            have HSX := Lib.hid (fun u (hu : New wr u) => (show New wr u ∧ u.cell? ⟨g, 0, none⟩ = some (.int .i64 p.1) ∧ u.cell? ⟨g, 1, none⟩ = some (.int .i64 p.2.1) ∧ u.cell? ⟨g, 2, none⟩ = some (.int .i64 p.2.2) from ⟨hu, hu.cellOf p0, hu.cellOf p1, hu.cellOf p2⟩))
            have HNV := Lib.hid HOUT2.out.1
            rcases (show (0 < z ∧ z ≤ d) ∨ (¬ 0 < z) ∨ (0 < z ∧ d < z ∧ z ≤ 99999) ∨ (0 < z ∧ d < z ∧ ¬ z ≤ 99999) by omega) with ⟨g1, g2⟩ | g1 | ⟨g1, g2, g3⟩ | ⟨g1, g2, g3⟩
            · have g4 : ¬ d < z := by omega
              have hzw : wrap64 (z - 1) = z - 1 := by unfold wrap64; omega
              have hzw2 : IntKind.i64.wrap (z - 1) = z - 1 := (IntWalk.i64_left _).trans hzw
              obtain ⟨x, hx, hcmp⟩ := pl3_cmp (atV l call stem (z - 1)) p HP1.out
              have HCC : Hid (∀ (y : Int) (u : World), y = z - 1 → New wr u → Calls Tryz.prog 38 #[.slice (some ⟨bb, off, none⟩) n c, .string (B call), .int .i64 y] u fun e w' => e = .returned (.agg #[.int .i64 x.1, .int .i64 x.2.1, .int .i64 x.2.2]) ∧ New u w') := Lib.hid (fun y u hy hu => by
                rw [hy, ← hx]; exact HPC.out (z - 1) u (HNV.out.trans hu))
              clear hx
              rcases hcmp with ⟨hy, hxp⟩ | ⟨hno, hcs⟩
              · have HST2 := Lib.hid (HSI2.out.step z lo2 hi2 (.inr ⟨fun h => h.2.2 hy, rfl⟩) (.inr ⟨fun h => g4 h.1, rfl⟩))
                rw [hxp] at HCC
                clear hy hxp
                go_wp2_with fail
                go_region_held3 (fun w' => New wr w' ∧ w'.cell? ⟨g, 0, none⟩ = some (.int .i64 p.1) ∧ w'.cell? ⟨g, 1, none⟩ = some (.int .i64 p.2.1) ∧ w'.cell? ⟨g, 2, none⟩ = some (.int .i64 p.2.2))
                  (first | exact HSX.out _ (New.refl _).drew | exact HSX.out _ (New.trans (New.refl _).drew (by assumption)) | exact HSX.out _ (New.trans (by first | assumption | exact (by assumption : New _ _ ∧ _).1) (by assumption)))
                  (first | (go_at_call 38; refine (HCC.out _ _ (by first | exact hzw2 | with_reducible rfl) (by first | exact (New.refl _).drew | assumption | exact (by assumption : New _ _ ∧ _).1)).mono ?_; rintro e w' ⟨rfl, hb⟩))
                clear p0 p1 p2
                have hnv : New wr w' := by first | assumption | exact (by assumption : New _ w' ∧ _).1
                have HON := Lib.hid (HOUT2.out.keep hnv)
                have HBN := Lib.hid (heap_keep hnv HBK.out)
                go_wp2_with fail
                have g5 : decide (d < z) = false := decide_eq_false (by omega)
                go_quiet (fail)
                go_wp2_with fail
                exact ⟨⟨k + 1, by omega, rfl, HBN.out, lo2, hi2, HON.out.keep ((New.refl _).drewN _), Lib.hid (HST2.out.imp HZD.out)⟩, by simp [intOf]; omega⟩
              · have HST2 := Lib.hid (HSI2.out.step z (max lo2 z) hi2 (.inl ⟨g1, g2, hno, rfl⟩) (.inr ⟨fun h => g4 h.1, rfl⟩))
                clear hno
                rcases hcs with hcs | hcs | hcs
                all_goals
                  go_wp2_with fail
                  go_region_held3 (fun w' => New wr w' ∧ w'.cell? ⟨g, 0, none⟩ = some (.int .i64 p.1) ∧ w'.cell? ⟨g, 1, none⟩ = some (.int .i64 p.2.1) ∧ w'.cell? ⟨g, 2, none⟩ = some (.int .i64 p.2.2))
                    (first | exact HSX.out _ (New.refl _).drew | exact HSX.out _ (New.trans (New.refl _).drew (by assumption)) | exact HSX.out _ (New.trans (by first | assumption | exact (by assumption : New _ _ ∧ _).1) (by assumption)))
                    (first | (go_at_call 38; refine (HCC.out _ _ (by first | exact hzw2 | with_reducible rfl) (by first | exact (New.refl _).drew | assumption | exact (by assumption : New _ _ ∧ _).1)).mono ?_; rintro e w' ⟨rfl, hb⟩))
                  clear p0 p1 p2
                  have hnv : New wr w' := by first | assumption | exact (by assumption : New _ w' ∧ _).1
                  have HON := Lib.hid (HOUT2.out.keep hnv)
                  have HBN := Lib.hid (heap_keep hnv HBK.out)
                  obtain ⟨r0, r1, f0, f1⟩ := two_all HON.out.2.2.2
                  go_wp2_with fail
                  have g5 : decide (d < z) = false := decide_eq_false (by omega)

                  go_quiet (fail)
                  go_wp2_with fail
                  exact ⟨⟨k + 1, by omega, rfl, (heap_setCell_other _ _ _ _ (by simp; have := HGD.out; omega)).trans HBN.out, max lo2 z, hi2, ((HON.out.setLo (by have := HG.out; omega) (by omega) _).keep ((New.refl _).drewN _)), Lib.hid (HST2.out.imp HZD.out)⟩, by simp [intOf]; omega⟩
            · have HST2 := Lib.hid (HSI2.out.step z lo2 hi2 (.inr ⟨fun h => g1 h.1, rfl⟩) (.inr ⟨fun h => by have := h.1; omega, rfl⟩))
              go_wp2_with fail
              have g5 : decide (0 < z) = false := decide_eq_false (by omega)
              go_quiet (fail)
              go_wp2_with fail
              have g6 : decide (d < z) = false := decide_eq_false (by omega)
              go_quiet (fail)
              go_wp2_with fail
              exact ⟨⟨k + 1, by omega, rfl, HBK.out, lo2, hi2, HOUT2.out.keep ((New.refl _).drewN _), Lib.hid (HST2.out.imp HZD.out)⟩, by simp [intOf]; omega⟩
            · obtain ⟨x, hx, hcmp⟩ := pl3_cmp (atV l call stem z) p HP1.out
              go_wp2_with fail
              have g5 : decide (z ≤ d) = false := decide_eq_false (by omega)
              go_quiet (fail)
              have HNW3 := Lib.hid ((New.refl wr).drewN nq)
              obtain ⟨w3, hw3⟩ : ∃ w3, wr.drewN nq = w3 := ⟨_, rfl⟩
              rw [hw3] at HNW3 ⊢
              clear hw3 p0 p1 p2
              have HOUT3 := Lib.hid (HOUT2.out.keep HNW3.out)
              have HBK3 := Lib.hid (heap_keep HNW3.out HBK.out)
              obtain ⟨p0, p1, p2, -, -, -⟩ := three_all HOUT3.out.2.2.1
              have HSX3 := Lib.hid (fun u (hu : New w3 u) => (show New w3 u ∧ u.cell? ⟨g, 0, none⟩ = some (.int .i64 p.1) ∧ u.cell? ⟨g, 1, none⟩ = some (.int .i64 p.2.1) ∧ u.cell? ⟨g, 2, none⟩ = some (.int .i64 p.2.2) from ⟨hu, hu.cellOf p0, hu.cellOf p1, hu.cellOf p2⟩))
              have HCC : Hid (∀ (y : Int) (u : World), y = z → New w3 u → Calls Tryz.prog 38 #[.slice (some ⟨bb, off, none⟩) n c, .string (B call), .int .i64 y] u fun e w' => e = .returned (.agg #[.int .i64 x.1, .int .i64 x.2.1, .int .i64 x.2.2]) ∧ New u w') := Lib.hid (fun y u hy hu => by
                rw [hy, ← hx]; exact HPC.out z u (HNV.out.trans (HNW3.out.trans hu)))
              have hzw : wrap64 (z - 1) = z - 1 := by unfold wrap64; omega
              clear hx
              rcases hcmp with ⟨hy, hxp⟩ | ⟨hno, hcs⟩
              · have HST2 := Lib.hid (HSI2.out.step z lo2 hi2 (.inr ⟨fun h => by have := h.2.1; omega, rfl⟩) (.inr ⟨fun h => h.2.2 hy, rfl⟩))
                rw [hxp] at HCC
                clear hy hxp
                go_wp2_with fail
                go_region_held3 (fun w' => New w3 w' ∧ w'.cell? ⟨g, 0, none⟩ = some (.int .i64 p.1) ∧ w'.cell? ⟨g, 1, none⟩ = some (.int .i64 p.2.1) ∧ w'.cell? ⟨g, 2, none⟩ = some (.int .i64 p.2.2))
                  (first | exact HSX3.out _ (New.refl _).drew | exact HSX3.out _ (New.trans (New.refl _).drew (by assumption)) | exact HSX3.out _ (New.trans (by first | assumption | exact (by assumption : New _ _ ∧ _).1) (by assumption)))
                  (first | (go_at_call 38; refine (HCC.out _ _ (by with_reducible rfl) (by first | exact (New.refl _).drew | assumption | exact (by assumption : New _ _ ∧ _).1)).mono ?_; rintro e w' ⟨rfl, hb⟩))
                clear p0 p1 p2
                have hnv : New w3 w' := by first | assumption | exact (by assumption : New _ w' ∧ _).1
                have HON := Lib.hid (HOUT3.out.keep hnv)
                have HBN := Lib.hid (heap_keep hnv HBK3.out)
                go_wp2_with fail
                exact ⟨⟨k + 1, by omega, rfl, HBN.out, lo2, hi2, HON.out, Lib.hid (HST2.out.imp HZD.out)⟩, by simp [intOf]; omega⟩
              · have HST2 := Lib.hid (HSI2.out.step z lo2 (min hi2 (z - 1)) (.inr ⟨fun h => by have := h.2.1; omega, rfl⟩) (.inl ⟨g2, g3, hno, rfl⟩))
                clear hno
                rcases hcs with hcs | hcs | hcs
                all_goals
                  go_wp2_with fail
                  go_region_held3 (fun w' => New w3 w' ∧ w'.cell? ⟨g, 0, none⟩ = some (.int .i64 p.1) ∧ w'.cell? ⟨g, 1, none⟩ = some (.int .i64 p.2.1) ∧ w'.cell? ⟨g, 2, none⟩ = some (.int .i64 p.2.2))
                    (first | exact HSX3.out _ (New.refl _).drew | exact HSX3.out _ (New.trans (New.refl _).drew (by assumption)) | exact HSX3.out _ (New.trans (by first | assumption | exact (by assumption : New _ _ ∧ _).1) (by assumption)))
                    (first | (go_at_call 38; refine (HCC.out _ _ (by with_reducible rfl) (by first | exact (New.refl _).drew | assumption | exact (by assumption : New _ _ ∧ _).1)).mono ?_; rintro e w' ⟨rfl, hb⟩))
                  clear p0 p1 p2
                  have hnv : New w3 w' := by first | assumption | exact (by assumption : New _ w' ∧ _).1
                  have HON := Lib.hid (HOUT3.out.keep hnv)
                  have HBN := Lib.hid (heap_keep hnv HBK3.out)
                  obtain ⟨r0, r1, f0, f1⟩ := two_all HON.out.2.2.2
                  go_wp2_with fail
                  exact ⟨⟨k + 1, by omega, rfl, (heap_setCell_other _ _ _ _ (by simp; have := HGD.out; omega)).trans HBN.out, lo2, min hi2 (z - 1), (HON.out.setHi (by have := HG.out; omega) (by omega) _), Lib.hid (HST2.out.imp HZD.out)⟩, by simp [intOf]; omega⟩
            · have HST2 := Lib.hid (HSI2.out.step z lo2 hi2 (.inr ⟨fun h => by have := h.2.1; omega, rfl⟩) (.inr ⟨fun h => g3 h.2.1, rfl⟩))
              go_wp2_with fail
              have g5 : decide (z ≤ d) = false := decide_eq_false (by omega)
              go_quiet (fail)
              go_wp2_with fail
              have g6 : decide (z ≤ 99999) = false := decide_eq_false (by omega)
              go_quiet (fail)
              go_wp2_with fail
              exact ⟨⟨k + 1, by omega, rfl, HBK.out, lo2, hi2, HOUT2.out.keep ((New.refl _).drewN _), Lib.hid (HST2.out.imp HZD.out)⟩, by simp [intOf]; omega⟩
          · obtain rfl : k = 2 := by omega
            go_wp2_with fail
            exact ⟨⟨i + 1, by omega, rfl, lo2, hi2, HOUT2.out, Lib.hid (HSI2.out.imp (fun x h => by
              rcases (HTT.out x).1 h with (h | h) | h
              · exact .inl h
              · exact .inr (.inl ⟨by omega, h⟩)
              · exact .inr (.inr ⟨by omega, h⟩)))⟩, by simp [intOf]; omega⟩
      · obtain rfl : i = n := by omega
        have HSP : Hid (SpanV (fun x => atV l call stem x = some p) d lo hig) := by
          have hD := HSI.out
          rw [List.take_of_length_le (by rw [HLN.out]; omega)] at hD
          refine Lib.hid (hD.span (fun a b hab h => at_turn a b hab h) HR.out HDY.out.1 HDY.out.2 ?_ ?_)
          · rw [at_off (fun r hr => ?_)]
            · simp
            · have := rows_days HV.out hr
              unfold forceB withinB
              rw [decide_eq_false (by omega)]
              rfl
          · rw [at_off (fun r hr => ?_)]
            · simp
            · have := rows_days HV.out hr
              unfold forceB withinB
              rw [decide_eq_false (p := (100000 : Int) ≤ r.til) (by omega)]
              simp
        obtain ⟨r0, r1, f0, f1⟩ := two_all HOUT.out.2.1
        obtain ⟨q0, q1, -, -⟩ := two_all HOUT.out.2.2.2
        go_wp2_with fail
        refine bodyPost_ret (v := .tuple #[.agg #[.int .i64 lo, .int .i64 hig], .int .i64 0]) (by simp [results, Tryz.results18, go_sem, r0, r1]) rfl ⟨lo, hig, 0, rfl, ?_, .inr ⟨rfl, _, p, HX.out, HQ.out, by rw [HST.out]; exact HR.out, by rw [HST.out]; exact HSP.out⟩⟩
        exact (HOUT.out.1.setCell (Nat.le_refl _) _).setCell (Nat.le_refl _) _
  · have HR : Hid (plR l call d = (none, (plR l call d).2)) := by
      by_cases hx : askV l (splitV call) d = 0
      · obtain ⟨_, _, q, hq⟩ := ask_zero hx
        cases hr : atV l call (stemV q) d with
        | none => exact Lib.hid (by rw [plR_none hx hq hr])
        | some p => rw [plR_some hx hq hr] at h0; exact (h0 rfl).elim
      · exact Lib.hid (by rw [plR_bad rfl hx])
    obtain ⟨x, hx⟩ : ∃ x, (plR l call d).2 = x := ⟨_, rfl⟩
    have HX := Lib.hid hx
    rw [hx] at h0 HR ⊢
    have H0 := Lib.hid h0
    rw [HR.out, pl3_none]
    have HA := Lib.hid (fun o => two_all (heap_keep ((New.refl w1).alloc o) HS1.out))
    have r0 := fun o => (HA.out o).1
    have r1 := fun o => (HA.out o).2.1
    have f0 := fun o => (HA.out o).2.2.1
    have f1 := fun o => (HA.out o).2.2.2
    clear hx
    go_wp2_with fail
    refine bodyPost_ret (v := .tuple #[.agg #[.int .i64 0, .int .i64 0], .int .i64 x]) (by simp [results, Tryz.results18, go_sem, r0, r1]) rfl ⟨0, 0, x, rfl, ?_, .inl ⟨H0.out, HX.out, rfl, rfl⟩⟩
    exact ((HN1.out.alloc _).setCell (Nat.le_refl _) _).setCell (Nat.le_refl _) _

end Go.Proofs.YtkbdmdnahphkkaaGreatDoor
