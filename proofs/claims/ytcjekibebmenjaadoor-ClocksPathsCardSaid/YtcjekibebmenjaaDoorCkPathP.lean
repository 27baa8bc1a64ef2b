/-
  Path of the program. Condition: the system lies in memory.
-/
import Derived.Test.YtcjekibebmenjaaDoorCkPath
namespace Go.Proofs.YtcjekibebmenjaaDoor
open Go Go.RowKit Go.Shelf
attribute [local go_sem] Oper.semAt_some
theorem Lead.turned {E : List Eg} : ∀ (k : List Nat) (u v : Nat), Lead (turnE E) u k v → Lead E v k.reverse u ∧ sumI E k.reverse = sumI (turnE E) k
  | [], u, v, h => by
    have e : u = v := h
    exact ⟨e.symm, rfl⟩
  | i :: k, u, v, ⟨e, h1, h2, h3⟩ => by
    obtain ⟨a, b⟩ := Lead.turned k _ _ h3
    unfold turnE at h1
    rw [List.getElem?_map] at h1
    cases hi : E[i]? with
    | none => rw [hi] at h1; cases h1
    | some f =>
      rw [hi] at h1
      have e2 : e = (f.2.1, f.1, f.2.2) := by simpa using h1.symm
      subst e2
      rw [List.reverse_cons]
      refine ⟨a.append ⟨f, hi, rfl, h2⟩, ?_⟩
      rw [sumI_append, b, sumI, sumI, sumI]
      have c1 : costI E i = f.2.2 := by simp [costI, hi]
      have c2 : costI (turnE E) i = f.2.2 := by simp [costI, turnE, List.getElem?_map, hi]
      rw [c1, c2]
      omega
/-- The edges of the wave. -/
def wayE (s : Sy) (latest : Bool) : List Eg := if latest then egs s else turnE (egs s)
theorem wayE_ok {s : Sy} (hs : Ok s) (latest : Bool) : EOk (wayE s latest) (nPl s) 22001 := by
  cases latest
  · exact turnE_ok (egs_ok hs)
  · exact egs_ok hs
theorem wayE_len (s : Sy) (latest : Bool) : (wayE s latest).length = (egs s).length := by
  cases latest
  · exact turnE_len _
  · rfl
theorem wayE_reach {s : Sy} (latest : Bool) {r : Rf} (hr : RefOk s r) : ∃ x, Wk (wayE s latest) 0 (plc s r) x := by
  cases latest
  · obtain ⟨x, hx⟩ := reach_all hr (nPl_pos s : 0 < nPl s)
    exact ⟨x, hx.turn⟩
  · have := reach_all (s := s) (r := beg) (.inl rfl) (plc_lt hr)
    rwa [plc_beg] at this
theorem wayE_closes {s : Sy} {latest : Bool} (h : Closes (wayE s latest)) : Closes (egs s) := by
  cases latest
  · have := turnE_closes h
    unfold wayE at this
    simp only [Bool.false_eq_true, if_false] at this
    rwa [turn_turn] at this
  · exact h
/-- What a wave's end says of a line: the least sum, and a path with it. -/
theorem wave_path {s : Sy} (hs : Ok s) {latest : Bool} {d b : Nat → Int} (h : WI (wayE s latest) (nPl s) 0 d b) (hc : Calm (wayE s latest) d) {r : Rf} (hr : lineB s r = true) :
    (∃ l, l ≠ [] ∧ Lead (wayE s latest) 0 l (plc s r) ∧ ByL (wayE s latest) b l ∧ l.length ≤ nPl s) ∧ (∀ k, k ≠ [] → Lead (wayE s latest) 0 k (plc s r) → ByL (wayE s latest) b k → sumI (wayE s latest) k = if latest then hiF s (plc s r) else loF s (plc s r)) := by
  have hE := wayE_ok hs latest
  have h0 : 0 < nPl s := nPl_pos s
  have hv := plc_lt (.inr hr : RefOk s r)
  obtain ⟨hd, hb, hall⟩ := h.dist (by decide) hE h0 hc
  have hx := wayE_reach latest (.inr hr : RefOk s r)
  obtain ⟨m, -, -⟩ := hd.minW hE h0 (nPl_NB hs) hx
  obtain ⟨x, hx⟩ := hx
  have hne := (hd.reach hE h0 (nPl_NB hs) hx).2.1
  obtain ⟨l, ht, hl, -⟩ := hall _ hv hne
  refine ⟨⟨l, fun e => ?_, ht.lead.1, ht.lead.2.1, hl⟩, fun k hk hL hB => ?_⟩
  · have := ht.lead.1
    rw [e] at this
    have h2 : 0 = plc s r := this
    have := (plc_line hr).1
    omega
  · have ht2 := (Tm.root hb : Tm (wayE s latest) b 0 [] 0).join _ k (plc s r) rfl hL hB
    have h3 := (ht2.sum h hE hc hv hne).1
    rw [hd.zero] at h3
    have e : d (plc s r) = if latest then hiF s (plc s r) else loF s (plc s r) := by
      cases latest with
      | true => exact (mnW_eq m).symm
      | false =>
        have m2 : MinW (egs s) (plc s r) 0 (d (plc s r)) := ⟨m.1.unturn, fun y hy => m.2 y hy.turn⟩
        exact (mnW_eq m2).symm
    rw [← e]
    simp only [List.nil_append] at h3
    omega
/-- A path proves an end of a span. -/
def PathOk (s : Sy) (r : Rf) (latest : Bool) (l : List Bd) : Prop := if latest then LeadsP s l beg r ∧ sumB l = hiF s (plc s r) else LeadsP s l r beg ∧ sumB l = loF s (plc s r)
theorem path_latest {s : Sy} (hs : Ok s) {r : Rf} (hr : lineB s r = true) {k : List Nat} (hk : k ≠ []) (hkl : k.length ≤ nPl s) (hL : Lead (egs s) 0 k (plc s r)) (hsum : sumI (egs s) k = hiF s (plc s r)) : PathOk s r true (namedL s k) := by
  have hn := nPl_le hs
  have hpos : 1 ≤ k.length := by
    cases k with
    | nil => exact absurd rfl hk
    | cons i k => simp
  refine ⟨⟨⟨by rw [namedL_len]; exact hpos, by rw [namedL_len]; omega⟩, lead_chain hs k 0 _ hL beg r (.inl rfl) (plc_beg s) (.inr hr) rfl, named_mem (lead_in k _ _ hL)⟩, by rw [sum_named]; exact hsum⟩
theorem path_earliest {s : Sy} (hs : Ok s) {r : Rf} (hr : lineB s r = true) {k : List Nat} (hk : k ≠ []) (hkl : k.length ≤ nPl s) (hL : Lead (egs s) (plc s r) k 0) (hsum : sumI (egs s) k = loF s (plc s r)) : PathOk s r false (namedL s k) := by
  have hn := nPl_le hs
  have hpos : 1 ≤ k.length := by
    cases k with
    | nil => exact absurd rfl hk
    | cons i k => simp
  refine ⟨⟨⟨by rw [namedL_len]; exact hpos, by rw [namedL_len]; omega⟩, lead_chain hs k _ 0 hL r beg (.inr hr) rfl (.inl rfl) (plc_beg s), named_mem (lead_in k _ _ hL)⟩, by rw [sum_named]; exact hsum⟩
/-- What Path answers. -/
def PaA (s : Sy) (r : Rf) (latest : Bool) (w : World) (e : Ending) (w' : World) : Prop :=
  (∃ er : Int, er ≠ 0 ∧ ErrP s [r] er ∧ e = .returned (.tuple #[.slice none 0 0, .int .i64 er]) ∧ New w w') ∨
  (ErrP s [r] 0 ∧ ∃ A l c, e = .returned (.tuple #[.slice A (List.length l) c, .int .i64 0]) ∧ New w w' ∧ BnsA w' A l ∧ PathOk s r latest l)
theorem neq_loop (a : Option Addr) (n c : Nat) (w : World) : (binOp .neq 126 (.slice a n c) (.slice none 0 0)).run Tryd.prog w = .ok (.bool (!a.isNone)) w := run_neq_slice_nil w 126 3 a n c Tryd.underlying126
set_option maxRecDepth 100000 in
set_option maxHeartbeats 8000000 in
theorem ck_Path (s : Sy) (r : Rf) (latest : Bool) (A D : Option Addr) (c d : Nat) (w : World) (hM : SysM w A D s) (hbeg : BegA w) :
    Calls Tryd.prog 62 #[.agg #[.slice A s.tracks.length c, .slice D s.ties.length d, .int .i64 s.window], .agg #[.int .i64 r.log, .int .i64 r.line], .bool latest] w fun e w' => PaA s r latest w e w' := by
  obtain ⟨rl, rn⟩ := r
  dsimp only
  have n2 := ((New.refl w).alloc (.cells #[.slice A s.tracks.length c, .slice D s.ties.length d, .int .i64 s.window] 25)).alloc (.cells #[.int .i64 rl, .int .i64 rn] 53)
  have r0 := (RowIs.new w 25 [.slice A s.tracks.length c, .slice D s.ties.length d, .int .i64 s.window]).keep ((New.refl _).alloc (.cells #[.int .i64 rl, .int .i64 rn] 53))
  have r1 := RowIs.new (w.alloc (.cells #[.slice A s.tracks.length c, .slice D s.ties.length d, .int .i64 s.window] 25)) 53 [.int .i64 rl, .int .i64 rn]
  simp only [World.size_alloc] at r1
  have n3 := n2.alloc (.cells #[.int .i64 rl, .int .i64 rn] 53)
  have r3 := RowIs.new ((w.alloc (.cells #[.slice A s.tracks.length c, .slice D s.ties.length d, .int .i64 s.window] 25)).alloc (.cells #[.int .i64 rl, .int .i64 rn] 53)) 53 [.int .i64 rl, .int .i64 rn]
  simp only [World.size_alloc] at r3
  have HCK := Lib.hid (ck_checkLines s A D (some ⟨w.heap.size + 1 + 1, 0, none⟩) c d 1 [⟨rl, rn⟩] _ (hM.keep n3) (RfsA.row r3 (by simp)))
  have HR2 := Lib.hid (r0.keep ((New.refl _).alloc (.cells #[.int .i64 rl, .int .i64 rn] 53)))
  have HR3 := Lib.hid (r1.keep ((New.refl _).alloc (.cells #[.int .i64 rl, .int .i64 rn] 53)))
  have HN3 := Lib.hid n3
  have HM := Lib.hid hM
  have HB : Hid (∀ w', New w w' → BegA w') := Lib.hid fun w' h => ⟨h.cellOf hbeg.1, h.cellOf hbeg.2⟩
  have c0 := r0.cell (i := 0) rfl
  have c1 := r0.cell (i := 1) rfl
  have c2 := r0.cell (i := 2) rfl
  have d0 := r1.cell (i := 0) rfl
  have d1 := r1.cell (i := 1) rfl
  clear n2 n3 r0 r1 r3 hM hbeg
  go_enter Tryd.func62, Tryd.ntmps62
  go_wp2_with fail
  refine HCK.out.mono ?_
  rintro e w1 ⟨rfl, m1⟩
  have HN4 := Lib.hid (HN3.out.trans m1)
  have HA0 := Lib.hid (HR2.out.keep m1)
  have HA1 := Lib.hid (HR3.out.keep m1)
  clear m1 c0 c1 c2 d0 d1 HR2 HR3 HN3 HCK
  by_cases he : linesE s [⟨rl, rn⟩] = 0
  · obtain ⟨hs, hal⟩ := linesE_ok.1 he
    have hln := hal ⟨rl, rn⟩ (by simp)
    have HE := Lib.hid he
    have HS := Lib.hid hs
    have HLN := Lib.hid hln
    have HNN := Lib.hid (ck_newNetO s hs A D c d w1 (HM.out.keep HN4.out) (HB.out _ HN4.out))
    rw [he]
    clear he hs hal hln
    have c0 := HA0.out.cell (i := 0) rfl
    have c1 := HA0.out.cell (i := 1) rfl
    have c2 := HA0.out.cell (i := 2) rfl
    go_wp2_with fail
    refine HNN.out.mono ?_
    rintro e w2 ⟨g, rfl, hO, -, m2⟩
    have HN5 := Lib.hid (HN4.out.trans m2)
    have HC0 := Lib.hid (HA0.out.keep m2)
    have HC1 := Lib.hid (HA1.out.keep m2)
    have HNE := Lib.hid (hO.at)
    have hgl : g < w2.heap.size := by
      obtain ⟨FA, fc, EA, ec, h1, -⟩ := hO
      exact h1.lt
    clear c0 c1 c2 m2 hO HA0 HA1 HNN
    have hel : (egs s).length ≤ 200000 := by have := bnds_len HS.out; unfold egs; rw [List.length_map]; exact this
    have HEL := Lib.hid hel
    clear hel
    cases latest with
    | true =>
      have b0 := (HB.out _ HN5.out).1
      have b1 := (HB.out _ HN5.out).2
      have HSP := Lib.hid (ck_spreadG s HS.out g (wayE s true) w2 HNE.out (wayE_ok HS.out true) (by rw [wayE_len]; exact HEL.out) beg (.inl rfl))
      dsimp only [beg] at HSP
      go_wp2_with fail
      refine HSP.out.mono ?_
      rintro e w3 (⟨gw, sb, bb, EA, ec, dd, bn, rfl, hwav, hwi, hcalm⟩ | ⟨gw, gl, m, kc, k, v, rfl, m3, hk0, hkL, hkS, hko, hkl⟩)
      · have m3 := hwav.new
        have hp0 : plc s ⟨-1, 0⟩ = 0 := plc_beg s
        rw [hp0] at hwi
        have hwi2 : WI (wayE s true) (nPl s) 0 dd bn := hwi
        obtain ⟨⟨l0, hl0, hlL, hlB, hll⟩, hsum⟩ := wave_path HS.out hwi2 hcalm HLN.out
        have HN6 := Lib.hid (HN5.out.trans m3)
        have HD0 := Lib.hid (HC0.out.keep m3)
        have HD1 := Lib.hid (HC1.out.keep m3)
        have HNF := Lib.hid (HNE.out.keep m3)
        have HSUM := Lib.hid hsum
        have hCW : Closes (wayE s true) := by
          have hd := (hwi2.dist (by decide) (wayE_ok HS.out true) (nPl_pos s) hcalm).1
          refine ⟨dd, fun e he => hcalm e he ?_⟩
          obtain ⟨q, hq, hqp⟩ := ref_at ((wayE_ok HS.out true).fst e he)
          obtain ⟨x, hx⟩ := wayE_reach true hq
          rw [hqp] at hx
          exact (hd.reach (wayE_ok HS.out true) (nPl_pos s) (nPl_NB HS.out) hx).2.1
        have HEZ : Hid (ErrP s [⟨rl, rn⟩] 0) := Lib.hid (.inl ⟨rfl, HE.out, wayE_closes hCW⟩)
        have hnn := nPl_le HS.out
        have HWY : Hid (∀ w', New w3 w' → Calls Tryd.prog 109 #[.pointer (some ⟨gw, 0, none⟩), .int .i64 0, .int .i64 (plc s ⟨rl, rn⟩)] w' fun e w'' => ∃ V k, e = .returned V ∧ k ≠ [] ∧ Lead (wayE s true) 0 k (plc s ⟨rl, rn⟩) ∧ ByL (wayE s true) bn k ∧ w''.ownsRow w3.heap.size 3 1 V k.length (natV k) ∧ New w' w'' ∧ k.length ≤ l0.length) := Lib.hid fun w' h => (ck_wayPath (hwav.keep h) (wayE_ok HS.out true) 0 (plc s ⟨rl, rn⟩) (plc_lt (.inr HLN.out)) l0 hl0 hlL hlB (by omega)).mono (by
          rintro e w'' ⟨V, k, h1, h2, h3, h4, h5, h6, h7⟩
          exact ⟨V, k, h1, h2, h3, h4, owns_base h5 h.size, h6, h7⟩)
        have hql := neq_loop none 0 0
        simp only [Option.isNone_none, Bool.not_true] at hql
        obtain ⟨FA, fcc, EA2, ec2, hg1, hg2, hg3⟩ := HNF.out
        have HP0 : Hid (∀ w', New w3 w' → Calls Tryd.prog 110 #[.pointer (some ⟨g, 0, none⟩), .agg #[.int .i64 (-1), .int .i64 0]] w' fun e w'' => e = .returned (.int .i64 0) ∧ New w' w'') := Lib.hid fun w' h => by
          have := ck_place s HS.out beg (.inl rfl) g fcc FA w' ((hg1.keep h).cell rfl) (hg2.keep h)
          rw [plc_beg] at this
          exact this
        have HP1 : Hid (∀ w', New w3 w' → Calls Tryd.prog 110 #[.pointer (some ⟨g, 0, none⟩), .agg #[.int .i64 rl, .int .i64 rn]] w' fun e w'' => e = .returned (.int .i64 (plc s ⟨rl, rn⟩)) ∧ New w' w'') := Lib.hid fun w' h => ck_place s HS.out ⟨rl, rn⟩ (.inr HLN.out) g fcc FA w' ((hg1.keep h).cell rfl) (hg2.keep h)
        have HSD : Hid (∀ w', New w3 w' → ((fun w' => New w3 w' ∧ ((w'.cell? ⟨w.heap.size + 1, 0, none⟩ = some (.int .i64 rl) ∧ w'.cell? ⟨w.heap.size + 1, 1, none⟩ = some (.int .i64 rn)) ∧ (w'.cell? ⟨0, 0, none⟩ = some (.int .i64 (-1)) ∧ w'.cell? ⟨0, 1, none⟩ = some (.int .i64 0))))) w') := Lib.hid fun w' h => ⟨h, ⟨(HD1.out.keep h).cell rfl, (HD1.out.keep h).cell rfl⟩, HB.out _ (HN6.out.trans h)⟩
        dsimp only at HSD
        have HLL := Lib.hid hll
        clear b0 b1 hwav hwi hwi2 hcalm hsum hl0 hlL hlB hll hg1 hg2 hg3 hCW m3 HSP hnn hp0
        go_wp2_with fail
        go_region_held3 (fun w' => New w3 w' ∧ ((w'.cell? ⟨w.heap.size + 1, 0, none⟩ = some (.int .i64 rl) ∧ w'.cell? ⟨w.heap.size + 1, 1, none⟩ = some (.int .i64 rn)) ∧ (w'.cell? ⟨0, 0, none⟩ = some (.int .i64 (-1)) ∧ w'.cell? ⟨0, 1, none⟩ = some (.int .i64 0))))
          (first | exact HSD.out _ (New.refl _).drew | exact HSD.out _ (New.trans (by first | assumption | exact (by assumption : New _ _ ∧ _).1) (by assumption)))
          (first | (go_at_call 110; with_reducible (refine (HP0.out _ ?_).mono ?_; first | assumption | exact (New.refl _).drew | exact (by assumption : New _ _ ∧ _).1); rintro e w' ⟨rfl, hb⟩) | (go_at_call 110; with_reducible (refine (HP1.out _ ?_).mono ?_; first | assumption | exact (New.refl _).drew | exact (by assumption : New _ _ ∧ _).1); rintro e w' ⟨rfl, hb⟩) | (go_at_call 109; with_reducible (refine (HWY.out _ ?_).mono ?_; first | assumption | exact (New.refl _).drew | exact (by assumption : New _ _ ∧ _).1); rintro e w' ⟨V, k, rfl, hk0, hkL, hkB, hko, hb, hkl⟩))
        all_goals
          have hn : New w3 w' := by first | assumption | exact (by assumption : New w3 w' ∧ _).1
          obtain ⟨KA, kc, rfl⟩ := owns_form hko
          have hI := (natV_at hko).2
          have HNW := Lib.hid (HN6.out.trans hn)
          have HNM := Lib.hid (ck_named s HS.out k A D _ c d kc w' (HM.out.keep HNW.out) (HB.out _ HNW.out) hI (lead_in k _ _ hkL) (by have := nPl_le HS.out; have := HLL.out; omega))
          have HPO := Lib.hid (path_latest HS.out HLN.out hk0 (by have := HLL.out; omega) hkL (by have := HSUM.out k hk0 hkL hkB; simp only [if_true] at this; exact this))
          have c0 := (HD0.out.keep hn).cell (i := 0) rfl
          have c1 := (HD0.out.keep hn).cell (i := 1) rfl
          have c2 := (HD0.out.keep hn).cell (i := 2) rfl
          clear hI hk0 hkL hkB hko hkl HSD HWY HP0 HP1 hn hb
          go_wp2_with fail
          refine HNM.out.mono ?_
          rintro e w9 ⟨V9, base, rfl, m9, ho⟩
          obtain ⟨VA, vc, rfl⟩ := owns_form ho
          have HBN := Lib.hid (owns_bns ho)
          have HN9 := Lib.hid (HNW.out.trans m9)
          clear m9 ho c0 c1 c2
          go_wp2_with fail
          try go_ret2
          exact .inr ⟨HEZ.out, VA, namedL s k, vc, by rw [namedL_len]; rfl, HN9.out, HBN.out.2, HPO.out⟩
      · have hncl : ¬Closes (wayE s true) := fun ⟨q, hq⟩ => by
          have := hkL.wk.keeps hq
          omega
        have HER : Hid (ErrP s [⟨rl, rn⟩] 31) := Lib.hid (.inr ⟨by decide, .inr ⟨HE.out, fun hc => hncl (hc), rfl⟩⟩)
        have hke : 0 < k.length := by
          cases k with
          | nil => exact absurd rfl hk0
          | cons i r => simp
        have HN6 := Lib.hid (HN5.out.trans m3)
        have hql := neq_loop (some ⟨gl, 0, none⟩) m kc
        simp only [Option.isNone_some, Bool.not_false] at hql
        clear b0 b1 hk0 hkL hkS hko hkl hncl m3 HSP
        go_wp2_with fail
        try go_ret2
        exact .inl ⟨31, by decide, HER.out, rfl, HN6.out⟩
    | false =>
      have HTU := Lib.hid (ck_turned s g (egs s) w2 HNE.out (by have := HEL.out; omega))
      go_wp2_with fail
      refine HTU.out.mono ?_
      rintro e w2t ⟨gt, rfl, hNT, mt⟩
      have HN5 := Lib.hid (HN5.out.trans mt)
      have HC0 := Lib.hid (HC0.out.keep mt)
      have HC1 := Lib.hid (HC1.out.keep mt)
      have hNT2 : NetAt w2t gt s (wayE s false) := hNT
      have HNE := Lib.hid hNT2
      clear mt HTU hNT hNT2
      have b0 := (HB.out _ HN5.out).1
      have b1 := (HB.out _ HN5.out).2
      have HSP := Lib.hid (ck_spreadG s HS.out gt (wayE s false) w2t HNE.out (wayE_ok HS.out false) (by rw [wayE_len]; exact HEL.out) beg (.inl rfl))
      dsimp only [beg] at HSP
      go_wp2_with fail
      refine HSP.out.mono ?_
      rintro e w3 (⟨gw, sb, bb, EA, ec, dd, bn, rfl, hwav, hwi, hcalm⟩ | ⟨gw, gl, m, kc, k, v, rfl, m3, hk0, hkL, hkS, hko, hkl⟩)
      · have m3 := hwav.new
        have hp0 : plc s ⟨-1, 0⟩ = 0 := plc_beg s
        rw [hp0] at hwi
        have hwi2 : WI (wayE s false) (nPl s) 0 dd bn := hwi
        obtain ⟨⟨l0, hl0, hlL, hlB, hll⟩, hsum⟩ := wave_path HS.out hwi2 hcalm HLN.out
        have HN6 := Lib.hid (HN5.out.trans m3)
        have HD0 := Lib.hid (HC0.out.keep m3)
        have HD1 := Lib.hid (HC1.out.keep m3)
        have HNF := Lib.hid (HNE.out.keep m3)
        have HSUM := Lib.hid hsum
        have hCW : Closes (wayE s false) := by
          have hd := (hwi2.dist (by decide) (wayE_ok HS.out false) (nPl_pos s) hcalm).1
          refine ⟨dd, fun e he => hcalm e he ?_⟩
          obtain ⟨q, hq, hqp⟩ := ref_at ((wayE_ok HS.out false).fst e he)
          obtain ⟨x, hx⟩ := wayE_reach false hq
          rw [hqp] at hx
          exact (hd.reach (wayE_ok HS.out false) (nPl_pos s) (nPl_NB HS.out) hx).2.1
        have HEZ : Hid (ErrP s [⟨rl, rn⟩] 0) := Lib.hid (.inl ⟨rfl, HE.out, wayE_closes hCW⟩)
        have hnn := nPl_le HS.out
        have HWY : Hid (∀ w', New w3 w' → Calls Tryd.prog 109 #[.pointer (some ⟨gw, 0, none⟩), .int .i64 0, .int .i64 (plc s ⟨rl, rn⟩)] w' fun e w'' => ∃ V k, e = .returned V ∧ k ≠ [] ∧ Lead (wayE s false) 0 k (plc s ⟨rl, rn⟩) ∧ ByL (wayE s false) bn k ∧ w''.ownsRow w3.heap.size 3 1 V k.length (natV k) ∧ New w' w'' ∧ k.length ≤ l0.length) := Lib.hid fun w' h => (ck_wayPath (hwav.keep h) (wayE_ok HS.out false) 0 (plc s ⟨rl, rn⟩) (plc_lt (.inr HLN.out)) l0 hl0 hlL hlB (by omega)).mono (by
          rintro e w'' ⟨V, k, h1, h2, h3, h4, h5, h6, h7⟩
          exact ⟨V, k, h1, h2, h3, h4, owns_base h5 h.size, h6, h7⟩)
        have hql := neq_loop none 0 0
        simp only [Option.isNone_none, Bool.not_true] at hql
        obtain ⟨FA, fcc, EA2, ec2, hg1, hg2, hg3⟩ := HNF.out
        have HP0 : Hid (∀ w', New w3 w' → Calls Tryd.prog 110 #[.pointer (some ⟨gt, 0, none⟩), .agg #[.int .i64 (-1), .int .i64 0]] w' fun e w'' => e = .returned (.int .i64 0) ∧ New w' w'') := Lib.hid fun w' h => by
          have := ck_place s HS.out beg (.inl rfl) gt fcc FA w' ((hg1.keep h).cell rfl) (hg2.keep h)
          rw [plc_beg] at this
          exact this
        have HP1 : Hid (∀ w', New w3 w' → Calls Tryd.prog 110 #[.pointer (some ⟨gt, 0, none⟩), .agg #[.int .i64 rl, .int .i64 rn]] w' fun e w'' => e = .returned (.int .i64 (plc s ⟨rl, rn⟩)) ∧ New w' w'') := Lib.hid fun w' h => ck_place s HS.out ⟨rl, rn⟩ (.inr HLN.out) gt fcc FA w' ((hg1.keep h).cell rfl) (hg2.keep h)
        have HSD : Hid (∀ w', New w3 w' → ((fun w' => New w3 w' ∧ ((w'.cell? ⟨w.heap.size + 1, 0, none⟩ = some (.int .i64 rl) ∧ w'.cell? ⟨w.heap.size + 1, 1, none⟩ = some (.int .i64 rn)) ∧ (w'.cell? ⟨0, 0, none⟩ = some (.int .i64 (-1)) ∧ w'.cell? ⟨0, 1, none⟩ = some (.int .i64 0))))) w') := Lib.hid fun w' h => ⟨h, ⟨(HD1.out.keep h).cell rfl, (HD1.out.keep h).cell rfl⟩, HB.out _ (HN6.out.trans h)⟩
        dsimp only at HSD
        have HLL := Lib.hid hll
        clear b0 b1 hwav hwi hwi2 hcalm hsum hl0 hlL hlB hll hg1 hg2 hg3 hCW m3 HSP hnn hp0
        go_wp2_with fail
        go_region_held3 (fun w' => New w3 w' ∧ ((w'.cell? ⟨w.heap.size + 1, 0, none⟩ = some (.int .i64 rl) ∧ w'.cell? ⟨w.heap.size + 1, 1, none⟩ = some (.int .i64 rn)) ∧ (w'.cell? ⟨0, 0, none⟩ = some (.int .i64 (-1)) ∧ w'.cell? ⟨0, 1, none⟩ = some (.int .i64 0))))
          (first | exact HSD.out _ (New.refl _).drew | exact HSD.out _ (New.trans (by first | assumption | exact (by assumption : New _ _ ∧ _).1) (by assumption)))
          (first | (go_at_call 110; with_reducible (refine (HP0.out _ ?_).mono ?_; first | assumption | exact (New.refl _).drew | exact (by assumption : New _ _ ∧ _).1); rintro e w' ⟨rfl, hb⟩) | (go_at_call 110; with_reducible (refine (HP1.out _ ?_).mono ?_; first | assumption | exact (New.refl _).drew | exact (by assumption : New _ _ ∧ _).1); rintro e w' ⟨rfl, hb⟩) | (go_at_call 109; with_reducible (refine (HWY.out _ ?_).mono ?_; first | assumption | exact (New.refl _).drew | exact (by assumption : New _ _ ∧ _).1); rintro e w' ⟨V, k, rfl, hk0, hkL, hkB, hko, hb, hkl⟩))
        all_goals
          have hn : New w3 w' := by first | assumption | exact (by assumption : New w3 w' ∧ _).1
          obtain ⟨KA, kc, rfl⟩ := owns_form hko
          have HK := Lib.hid hko
          obtain ⟨hkR, hsR⟩ := Lead.turned k 0 _ hkL
          have hk0R : k.reverse ≠ [] := by simpa using hk0
          have hlR : k.reverse.length = k.length := List.length_reverse
          have HPO := Lib.hid (path_earliest HS.out HLN.out hk0R (by have := HLL.out; omega) hkR (by have := HSUM.out k hk0 hkL hkB; simp only [Bool.false_eq_true, if_false] at this; exact hsR.trans this))
          have HIN := Lib.hid (lead_in k.reverse _ _ hkR)
          have HKL := Lib.hid hkl
          have HNW := Lib.hid (HN6.out.trans hn)
          have HRV := Lib.hid (ck_rev _ k (.slice KA k.length kc) w' hko)
          have HNU := Lib.hid hn
          clear hk0 hkL hkB hko hkl hkR hsR hk0R HSD HWY HP0 HP1 hn hb
          go_wp2_with fail
          refine HRV.out.mono ?_
          rintro e w5 ⟨rfl, ho5, hg5⟩
          have hn5 : New w3 w5 := Below.trans HNU.out (grown_below HK.out hg5 HNU.out.size)
          have hI := (natV_at (by rw [← hlR] at ho5; exact ho5)).2
          have HNW := Lib.hid (HN6.out.trans hn5)
          have HNM := Lib.hid (ck_named s HS.out k.reverse A D _ c d kc w5 (HM.out.keep HNW.out) (HB.out _ HNW.out) hI HIN.out (by have := nPl_le HS.out; have := HLL.out; have := HKL.out; omega))
          have c0 := (HD0.out.keep hn5).cell (i := 0) rfl
          have c1 := (HD0.out.keep hn5).cell (i := 1) rfl
          have c2 := (HD0.out.keep hn5).cell (i := 2) rfl
          rw [hlR] at HNM
          clear hI ho5 hg5 hn5
          go_wp2_with fail
          refine HNM.out.mono ?_
          rintro e w9 ⟨V9, base, rfl, m9, ho⟩
          obtain ⟨VA, vc, rfl⟩ := owns_form ho
          have HBN := Lib.hid (owns_bns ho)
          have HN9 := Lib.hid (HNW.out.trans m9)
          clear m9 ho c0 c1 c2
          go_wp2_with fail
          try go_ret2
          exact .inr ⟨HEZ.out, VA, namedL s k.reverse, vc, by rw [namedL_len, hlR]; rfl, HN9.out, HBN.out.2, HPO.out⟩
      · have hncl : ¬Closes (wayE s false) := fun ⟨q, hq⟩ => by
          have := hkL.wk.keeps hq
          omega
        have HER : Hid (ErrP s [⟨rl, rn⟩] 31) := Lib.hid (.inr ⟨by decide, .inr ⟨HE.out, fun hc => hncl (turnE_closes hc), rfl⟩⟩)
        have hke : 0 < k.length := by
          cases k with
          | nil => exact absurd rfl hk0
          | cons i r => simp
        have HN6 := Lib.hid (HN5.out.trans m3)
        have hql := neq_loop (some ⟨gl, 0, none⟩) m kc
        simp only [Option.isNone_some, Bool.not_false] at hql
        clear b0 b1 hk0 hkL hkS hko hkl hncl m3 HSP
        go_wp2_with fail
        try go_ret2
        exact .inl ⟨31, by decide, HER.out, rfl, HN6.out⟩
  · have hne : (linesE s [⟨rl, rn⟩] != 0) = true := by simp [he]
    have HER : Hid (ErrP s [⟨rl, rn⟩] (linesE s [⟨rl, rn⟩])) := Lib.hid (.inr ⟨he, .inl ⟨he, rfl⟩⟩)
    have HEN := Lib.hid he
    generalize linesE s [⟨rl, rn⟩] = er at *
    clear he
    go_wp2_with fail
    try go_ret2
    exact .inl ⟨er, HEN.out, HER.out, rfl, HN4.out⟩
end Go.Proofs.YtcjekibebmenjaaDoor
