/-
  Table, fits, proves, CheckTable of the program: what a table of anyone proves. Condition: the tables lie in memory; texts of at most 1000000 bytes.
-/
import Derived.Test.YthodoabppkeidaaDoorCpCkA
import Derived.Test.YthodoabppkeidaaDoorCpFig
import Derived.Test.YthodoabppkeidaaDoorCpRise
import Derived.BigQuiet
namespace Go.Proofs.YthodoabppkeidaaDoor
open Go Go.RowKit
/-- A row of a table of anyone: one with no number may lie anywhere. -/
def RowIn (w : World) (v : Value) (r : List Int) : Prop := (r = [] ∧ ∃ A c, v = .slice A 0 c ∧ c ≤ 9223372036854775807) ∨ IntsAt w v r
theorem RowIn.keep {w w' : World} {v : Value} {r : List Int} (h : RowIn w v r) (k : New w w') : RowIn w' v r := by
  rcases h with h | h
  · exact .inl h
  · exact .inr (h.keep k)
theorem RowIn.form {w : World} {v : Value} {r : List Int} (h : RowIn w v r) : ∃ A c, v = .slice A r.length c ∧ r.length ≤ c ∧ c ≤ 9223372036854775807 := by
  rcases h with ⟨rfl, A, c, rfl, h1⟩ | h
  · exact ⟨A, c, rfl, Nat.zero_le _, h1⟩
  · exact h.form
theorem RowIn.ints {w : World} {v : Value} {r : List Int} (h : RowIn w v r) (h0 : 0 < r.length) : IntsAt w v r := by
  rcases h with ⟨rfl, _⟩ | h
  · simp at h0
  · exact h
/-- A table of anyone in memory. -/
def TblAt (w : World) (v : Value) (rs : List (List Int)) : Prop :=
  (v = .slice none 0 0 ∧ rs = []) ∨ ∃ b off c, v = .slice (some ⟨b, off, none⟩) rs.length c ∧ rs.length ≤ c ∧ c ≤ 9223372036854775807 ∧ (0 < rs.length → b < w.heap.size) ∧ ∀ i r, rs[i]? = some r → ∃ u, w.cell? ⟨b, off + i, none⟩ = some u ∧ RowIn w u r
theorem TblAt.keep {w w' : World} {v : Value} {rs : List (List Int)} (h : TblAt w v rs) (k : New w w') : TblAt w' v rs := by
  rcases h with h | ⟨b, off, c, h1, h2, h3, h4, h5⟩
  · exact .inl h
  · refine .inr ⟨b, off, c, h1, h2, h3, fun h => Nat.lt_of_lt_of_le (h4 h) k.size, fun i r hr => ?_⟩
    have hi := (List.getElem?_eq_some_iff.1 hr).1
    obtain ⟨u, hu, hI⟩ := h5 i r hr
    exact ⟨u, (k.cell (p := ⟨b, off + i, none⟩) (h4 (by omega))).trans hu, hI.keep k⟩
theorem TblAt.form {w : World} {v : Value} {rs : List (List Int)} (h : TblAt w v rs) : ∃ A c, v = .slice A rs.length c ∧ rs.length ≤ c ∧ c ≤ 9223372036854775807 := by
  rcases h with ⟨rfl, rfl⟩ | ⟨b, off, c, h1, h2, h3, -⟩
  · exact ⟨none, 0, rfl, Nat.le_refl _, by omega⟩
  · exact ⟨_, c, h1, h2, h3⟩
theorem TblAt.cells {w : World} {A : Option Addr} {n c : Nat} {rs : List (List Int)} (h : TblAt w (.slice A n c) rs) (h0 : 0 < rs.length) : ∃ b off, A = some ⟨b, off, none⟩ ∧ n = rs.length ∧ b < w.heap.size ∧ ∀ i r, rs[i]? = some r → ∃ B k, w.cell? ⟨b, off + i, none⟩ = some (.slice B r.length k) ∧ RowIn w (.slice B r.length k) r ∧ r.length ≤ k ∧ k ≤ 9223372036854775807 := by
  rcases h with ⟨_, h2⟩ | ⟨b, off, c', h1, _, _, h4, h5⟩
  · subst h2; simp at h0
  · simp only [Value.slice.injEq] at h1
    refine ⟨b, off, h1.1, h1.2.1, h4 h0, fun i r hr => ?_⟩
    obtain ⟨u, hu, hI⟩ := h5 i r hr
    obtain ⟨B, k, rfl, hk1, hk2⟩ := hI.form
    exact ⟨B, k, hu, hI, hk1, hk2⟩
/-- The program's own table reads as the plain one. -/
theorem TabsAt.tbl {w : World} {n0 : Nat} {v : Value} {c : Cs Nat} {s h : List Nat} (x : TabsAt w n0 v ((List.range (s.length + 1)).map (tabRow c s h))) : TblAt w v (tabI c s h) := by
  obtain ⟨vs, ho, hr⟩ := x
  have hl : (tabI c s h).length = s.length + 1 := by simp [tabI]
  have h0 := ho
  rw [List.length_map, List.length_range] at ho
  rcases ho.2 with ⟨rfl, hz⟩ | ⟨g, cap, cur, rfl, hb, hh, h1, h2, h3, h4⟩
  · omega
  · unfold maxLen at h2
    refine .inr ⟨g, 0, cap, by rw [hl], by rw [hl]; exact h1, h2, fun _ => (Array.getElem?_eq_some_iff.1 hh).1, fun i r hi => ?_⟩
    have hil := (List.getElem?_eq_some_iff.1 hi).1
    rw [hl] at hil
    have hvl : vs.length = s.length + 1 := by rw [hr.1]; simp
    have hv : vs[i]? = some vs[i] := List.getElem?_eq_getElem (by omega)
    have hrow : ((List.range (s.length + 1)).map (tabRow c s h))[i]? = some (tabRow c s h i) := by rw [List.getElem?_map, List.getElem?_range hil]; rfl
    have hown := hr.2 i _ _ hv hrow
    have hr2 : r = (List.range (h.length + 1)).map fun k => ((lc c (s.take i) (h.take k) : Nat) : Int) := by
      rw [tabI, List.getElem?_map, List.getElem?_range hil] at hi
      exact (Option.some.inj hi).symm
    refine ⟨vs[i], ?_, .inr (IntsAt.owns (base := n0) ?_)⟩
    · have e := ho.cellAt i (by omega)
      rw [hv] at e
      rw [Nat.zero_add]
      exact e
    · rw [tabRow_ints, ← hr2] at hown
      rw [List.length_map] at hown
      exact hown
set_option maxHeartbeats 400000 in
theorem cp_Table_err (mode E : Int) (s h : Bytes) (w : World) (hE : (E != 0) = true) (hc : Calls Tryd.prog 42 #[.int .i64 mode, .string (B s), .string (B h)] w fun e w' => e = .returned (.tuple #[noHear, .int .i64 E]) ∧ New w w') :
    Calls Tryd.prog 25 #[.int .i64 mode, .string (B s), .string (B h)] w fun e w' => e = .returned (.tuple #[.slice none 0 0, .int .i64 E]) ∧ New w w' := by
  have HC := Lib.hid hc
  clear hc
  unfold noHear at HC
  go_enter Tryd.func25, Tryd.ntmps25
  go_wp2_with fail
  refine HC.out.mono ?_
  rintro e w' ⟨rfl, h1⟩
  go_wp2_with fail
  go_ret2
  exact ⟨rfl, h1.alloc _⟩
set_option maxHeartbeats 1000000 in
theorem cp_Table_ok (F : List Bytes) (m : Md) (mode : Int) (s h : Bytes) (w : World) (hT : TabAt w F) (hm : mdOf mode = some m) {a b : List Nat} (ha : keysOf s = some a) (hb : keysOf h = some b) (ls : s.length ≤ 64) (lh : h.length ≤ 64) :
    Calls Tryd.prog 25 #[.int .i64 mode, .string (B s), .string (B h)] w fun e w' => ∃ v, e = .returned (.tuple #[v, .int .i64 0]) ∧ (TblAt w' v (tabI (mdC F m) a b) ∧ New w w') := by
  have hc := cp_newHearing_ok m mode s h w hm ls lh ha hb
  have la : a.length ≤ 64 := by rw [keysOf_len ha]; exact ls
  have lb : b.length ≤ 64 := by rw [keysOf_len hb]; exact lh
  have HC := Lib.hid hc
  have HT := Lib.hid hT
  have HK := Lib.hid (And.intro (keysOf_lt ha) (keysOf_lt hb))
  clear hc hT hm ha hb
  unfold hearV at HC
  rw [medV_eq] at HC
  go_enter Tryd.func25, Tryd.ntmps25
  go_wp2_with fail
  refine HC.out.mono ?_
  rintro e w1 ⟨g1, g2, rfl, h1, r1, r2⟩
  have hx := hear_made (m := m) r1 r2 HK.out.1 HK.out.2 la lb
  unfold ksl at hx ⊢
  generalize htm : medT m = tm at *
  have HX1 := Lib.hid hx
  have HN1 := Lib.hid h1
  clear hx r1 r2 h1 HC
  go_wp2_with fail
  have k2 := (New.refl w1).alloc (.cells #[.iface tm (.agg #[]), .slice (some ⟨g1, 0, none⟩) a.length a.length, .slice (some ⟨g2, 0, none⟩) b.length b.length] 83)
  have HX2 := Lib.hid (HX1.out.keep k2)
  have HN2 := Lib.hid (HN1.out.trans k2)
  generalize w1.alloc (.cells #[.iface tm (.agg #[]), .slice (some ⟨g1, 0, none⟩) a.length a.length, .slice (some ⟨g2, 0, none⟩) b.length b.length] 83) = w2 at *
  refine (cp_table F m a b _ _ (HT.out.keep HN2.out) HX2.out).mono ?_
  rintro e w3 ⟨v, rfl, t3, n3⟩
  have HTB := Lib.hid t3.tbl
  have HN3 := Lib.hid (HN2.out.trans n3)
  clear t3 n3
  go_wp2_with fail
  go_ret2
  exact ⟨_, rfl, HTB.out, HN3.out⟩
/-- The table, or none with an error. -/
def tbC (F : List Bytes) (mode : Int) (s h : Bytes) : List (List Int) :=
  if hearE mode s h = 0 then match mdOf mode, keysOf s, keysOf h with
    | some m, some a, some b => tabI (mdC F m) a b
    | _, _, _ => []
  else []
theorem cp_Table (F : List Bytes) (mode : Int) (s h : Bytes) (w : World) (hT : TabAt w F) (hs : s.length ≤ 1000000) (hh : h.length ≤ 1000000) :
    Calls Tryd.prog 25 #[.int .i64 mode, .string (B s), .string (B h)] w fun e w' => ∃ v, e = .returned (.tuple #[v, .int .i64 (hearE mode s h)]) ∧ (TblAt w' v (tbC F mode s h) ∧ New w w') := by
  by_cases he : hearE mode s h = 0
  · obtain ⟨m, a, b, hm, ha, hb, ls, lh⟩ := hearE_ok he
    have h1 := cp_Table_ok F m mode s h w hT hm ha hb ls lh
    rw [tbC, if_pos he, hm, ha, hb, he]
    exact h1
  · have h1 := cp_Table_err mode (hearE mode s h) s h w (by rw [bne_iff_ne]; exact he) (cp_newHearing_no mode s h w hs hh he)
    rw [tbC, if_neg he]
    exact h1.mono fun e w' ⟨h2, h3⟩ => ⟨_, h2, .inl ⟨rfl, rfl⟩, h3⟩
/-- Whether a row of a table is as long as it must be, and its numbers within the bounds. -/
def cellB (n : Int) : Bool := decide (-1000000 ≤ n ∧ n ≤ 1000000)
def rowB (h : List Nat) (r : List Int) : Bool := decide (r.length = h.length + 1) && r.all cellB
def fitB (s h : List Nat) (rs : List (List Int)) : Bool := decide (rs.length = s.length + 1) && rs.all (rowB h)
theorem fitB_iff {s h : List Nat} {rs : List (List Int)} : fitB s h rs = true ↔ Fits s h rs := by
  simp only [fitB, rowB, cellB, Fits, Bool.and_eq_true, decide_eq_true_iff, List.all_eq_true]
set_option maxRecDepth 100000 in
set_option maxHeartbeats 1000000 in
theorem cp_fits (m : Md) (s h : List Nat) (v tv : Value) (rs : List (List Int)) (w : World) (hx : HearAt w m s h v) (ht : TblAt w tv rs) :
    Calls Tryd.prog 51 #[v, tv] w fun e w' => e = .returned (.bool (fitB s h rs)) ∧ New w w' := by
  obtain ⟨vs, vh, rfl, ⟨A1, c1, rfl, -, -, -⟩, ⟨A2, c2, rfl, -, -, -⟩, ks, kh, ls, lh⟩ := hx
  rw [keysV_len, keysV_len]
  clear ks kh
  have HT := Lib.hid ht
  obtain ⟨A, c, rfl, b1, b2⟩ := ht.form
  clear ht
  have HW := Lib.hid cp_within
  generalize medT m = tm
  have HR := Lib.hid (RowIs.new w 83 [.iface tm (.agg #[]), .slice A1 s.length c1, .slice A2 h.length c2])
  have HN := Lib.hid ((New.refl w).alloc (.cells #[.iface tm (.agg #[]), .slice A1 s.length c1, .slice A2 h.length c2] 83))
  by_cases hl : rs.length = s.length + 1
  · have hfb : fitB s h rs = rs.all (rowB h) := by rw [fitB, decide_eq_true hl, Bool.true_and]
    rw [hfb]
    clear hfb
    generalize hR : rs.all (rowB h) = RB
    have HRB := Lib.hid hR
    clear hR
    obtain ⟨gb, go, rfl, -, hgb, hcs⟩ := HT.out.cells (by omega)
    have HCS : Hid (∀ i r, rs[i]? = some r → ∃ B k, (∀ w', New w w' → w'.cell? ⟨gb, go + i, none⟩ = some (.slice B r.length k)) ∧ RowIn w (.slice B r.length k) r ∧ r.length ≤ k ∧ k ≤ 9223372036854775807) := Lib.hid (fun i r hr => by
      obtain ⟨B, k, h1, h2⟩ := hcs i r hr
      exact ⟨B, k, fun w' hn => (hn.cell (p := ⟨gb, go + i, none⟩) hgb).trans h1, h2⟩)
    rw [hl] at b1 ⊢
    clear hcs hgb HT
    have HL := Lib.hid hl
    clear hl
    have i0 : IntKind.i64.wrap ((s.length : Int) + 1) = (s.length : Int) + 1 := IntWalk.i64_in _ (by omega)
    go_enter Tryd.func51, Tryd.ntmps51
    have q1 := HR.out.cell (i := 1) rfl
    have q2 := HR.out.cell (i := 2) rfl
    have i0h : IntKind.i64.wrap ((h.length : Int) + 1) = (h.length : Int) + 1 := IntWalk.i64_in _ (by omega)
    go_wp2_with fail
    generalize hW : w.alloc (.cells #[.iface tm (.agg #[]), .slice A1 s.length c1, .slice A2 h.length c2] 83) = W at *
    clear hW
    go_loopw [18] (fun s18 wr => ∃ i : Nat, i ≤ s.length + 1 ∧ s18 = .int .i64 i ∧ (rs.drop i).all (rowB h) = RB ∧ wr = W) (fun i _ => s.length + 1 - (intOf i).toNat)
    case atStart => exact ⟨0, Nat.zero_le _, rfl, HRB.out, rfl⟩
    case round =>
      obtain ⟨i, hi, rfl, hg, hw⟩ := hrel
      have hw' := hw.symm
      subst hw'
      clear hw
      have HG := Lib.hid hg
      clear hg
      by_cases hlt : i < s.length + 1
      · have hil : i < rs.length := by rw [HL.out]; exact hlt
        obtain ⟨B1, k1, hu0, hI, hk1, hk2⟩ := HCS.out i _ (List.getElem?_eq_getElem hil)
        have hu := hu0 W HN.out
        have hdr : rs.drop i = rs[i] :: rs.drop (i + 1) := List.drop_eq_getElem_cons hil
        have HDR := Lib.hid hdr
        clear hu0 hdr
        generalize rs[i] = r at *
        clear hil
        have HI0 := Lib.hid (hI.keep HN.out)
        clear hI
        have i1 : (i : Int) < (s.length : Int) + 1 := by omega
        by_cases hlr : r.length = h.length + 1
        · have HI := Lib.hid (HI0.out.ints (by omega))
          rw [hlr] at hu hk1 HI
          clear HI0
          have hrb : rowB h r = r.all cellB := by rw [rowB, decide_eq_true hlr, Bool.true_and]
          have hg2 := HG.out
          rw [HDR.out, List.all_cons, hrb] at hg2
          have HG2 := Lib.hid hg2
          have HLR := Lib.hid hlr
          clear hg2 hrb hlr
          generalize hRR : r.all cellB = RR at *
          have HRR := Lib.hid hRR
          clear hRR
          go_wp2_with fail
          go_loopw [31] (fun s31 wr => ∃ k : Nat, k ≤ h.length + 1 ∧ s31 = .int .i64 k ∧ (r.drop k).all cellB = RR ∧ wr = W) (fun k _ => h.length + 1 - (intOf k).toNat)
          case atStart => exact ⟨0, Nat.zero_le _, rfl, HRR.out, rfl⟩
          case round =>
            obtain ⟨k, hk, rfl, hg, hw⟩ := hrel
            have hw' := hw.symm
            subst hw'
            clear hw
            by_cases hkt : k < h.length + 1
            · have hkl : k < r.length := by rw [HLR.out]; exact hkt
              obtain ⟨gx, ox, rfl, -, hc⟩ := ints_cell HI.out (by omega)
              have hck := hc k hkl
              have hdk : r.drop k = r[k] :: r.drop (k + 1) := List.drop_eq_getElem_cons hkl
              rw [hdk, List.all_cons] at hg
              have HGK := Lib.hid hg
              clear hc hdk hg
              have H1 := Lib.hid (HW.out r[k] (-1000000) 1000000 W)
              generalize r[k] = x at *
              clear hkl
              have i2 : (k : Int) < (h.length : Int) + 1 := by omega
              by_cases hx : -1000000 ≤ x ∧ x ≤ 1000000
              · rw [decide_eq_true hx] at H1
                have hg3 := HGK.out
                rw [cellB, decide_eq_true hx, Bool.true_and] at hg3
                have HG3 := Lib.hid hg3
                clear hg3 hx
                go_wp2_with (go_at_call 54; refine H1.out.mono ?_; rintro e w' ⟨rfl, rfl⟩)
                refine ⟨⟨k + 1, by omega, by go_num, HG3.out, trivial⟩, by simp [intOf]; omega⟩
              · rw [decide_eq_false hx] at H1
                have hg3 := HGK.out
                rw [cellB, decide_eq_false hx, Bool.false_and] at hg3
                subst hg3
                have hg4 := HG2.out
                rw [Bool.false_and] at hg4
                subst hg4
                clear hx
                go_wp2_with (go_at_call 54; refine H1.out.mono ?_; rintro e w' ⟨rfl, rfl⟩)
                go_ret
                exact ⟨rfl, HN.out⟩
            · obtain rfl : k = h.length + 1 := by omega
              rw [← HLR.out, List.drop_length, List.all_nil] at hg
              subst hg
              have hg4 := HG2.out
              rw [Bool.true_and] at hg4
              have HG4 := Lib.hid hg4
              clear hg4
              go_wp2_with fail
              refine ⟨⟨i + 1, by omega, by go_num, HG4.out, trivial⟩, by simp [intOf]; omega⟩
        · have hrb : rowB h r = false := by rw [rowB, decide_eq_false hlr, Bool.false_and]
          have hg2 := HG.out
          rw [HDR.out, List.all_cons, hrb, Bool.false_and] at hg2
          subst hg2
          have hrl : ((r.length : Int) != (h.length : Int) + 1) = true := by rw [bne_iff_ne]; omega
          clear hrb hlr
          go_wp2_with fail
          go_ret
          exact ⟨rfl, HN.out⟩
      · obtain rfl : i = s.length + 1 := by omega
        have hg2 := HG.out
        rw [← HL.out, List.drop_length, List.all_nil] at hg2
        subst hg2
        go_wp2_with fail
        go_ret
        exact ⟨rfl, HN.out⟩
  · have hfb : fitB s h rs = false := by rw [fitB, decide_eq_false hl, Bool.false_and]
    rw [hfb]
    clear hfb
    have hl2 : ((rs.length : Int) != (s.length : Int) + 1) = true := by rw [bne_iff_ne]; omega
    have i0 : IntKind.i64.wrap ((s.length : Int) + 1) = (s.length : Int) + 1 := IntWalk.i64_in _ (by omega)
    go_enter Tryd.func51, Tryd.ntmps51
    have q1 := HR.out.cell (i := 1) rfl
    have q2 := HR.out.cell (i := 2) rfl
    go_wp2_with fail
    go_ret
    exact ⟨rfl, HN.out⟩
/-- The elements of a table that fits, in memory. -/
theorem tbl_at {s h : List Nat} {rs : List (List Int)} {w : World} {A : Option Addr} {n c : Nat} (ht : TblAt w (.slice A n c) rs) (hf : Fits s h rs) : ∃ gb go, A = some ⟨gb, go, none⟩ ∧ n = s.length + 1 ∧ ∀ i, i ≤ s.length → ∃ gx ox cx, (h.length + 1 ≤ cx ∧ cx ≤ 9223372036854775807) ∧ ∀ w', New w w' →
    w'.cell? ⟨gb, go + i, none⟩ = some (.slice (some ⟨gx, ox, none⟩) (h.length + 1) cx) ∧ ∀ k, k ≤ h.length → w'.cell? ⟨gx, ox + k, none⟩ = some (.int .i64 (tAt rs (i, k))) := by
  obtain ⟨hl, hr⟩ := hf
  obtain ⟨gb, go, rfl, rfl, hgb, hcs⟩ := ht.cells (by omega)
  refine ⟨gb, go, rfl, hl, fun i hi => ?_⟩
  have hg : rs[i]? = some rs[i] := List.getElem?_eq_getElem (by omega)
  obtain ⟨B, k, hu, hI, hk1, hk2⟩ := hcs i _ hg
  have hrl := (hr rs[i] (List.getElem_mem _)).1
  obtain ⟨gx, ox, rfl, -, hc⟩ := ints_cell (hI.ints (by omega)) (by omega)
  rw [hrl] at hu hk1
  refine ⟨gx, ox, k, ⟨hk1, hk2⟩, fun w' hn => ⟨(hn.cell (p := ⟨gb, go + i, none⟩) hgb).trans hu, fun y hy => ?_⟩⟩
  have h1 := hc y (by omega)
  have h2 : tAt rs (i, y) = rs[i][y] := by
    unfold tAt
    simp only [List.getD_eq_getElem?_getD, hg, Option.getD_some, List.getElem?_eq_getElem (show y < rs[i].length by omega)]
  rw [h2]
  exact (hn.cell (p := ⟨gx, ox + y, none⟩) (World.block_lt_of_cell? _ _ h1)).trans h1
theorem tbl_le {s h : List Nat} {rs : List (List Int)} (hf : Fits s h rs) {i k : Nat} (hi : i ≤ s.length) (hk : k ≤ h.length) : -1000000 ≤ tAt rs (i, k) ∧ tAt rs (i, k) ≤ 1000000 := by
  obtain ⟨hl, hr⟩ := hf
  have hg : rs[i]? = some rs[i] := List.getElem?_eq_getElem (by omega)
  obtain ⟨h1, h2⟩ := hr rs[i] (List.getElem_mem _)
  have h3 : tAt rs (i, k) = rs[i][k] := by
    unfold tAt
    simp only [List.getD_eq_getElem?_getD, hg, Option.getD_some, List.getElem?_eq_getElem (show k < rs[i].length by omega)]
  rw [h3]
  exact h2 _ (List.getElem_mem _)
set_option maxRecDepth 100000 in
set_option maxHeartbeats 4000000 in
theorem cp_proves (F : List Bytes) (m : Md) (s h : List Nat) (v tv : Value) (rs : List (List Int)) (w : World) (hT : TabAt w F) (hx : HearAt w m s h v) (ht : TblAt w tv rs) (hf : Fits s h rs) :
    Calls Tryd.prog 52 #[v, tv] w fun e w' => ∃ R, e = .returned (.bool R) ∧ ((R = true ↔ Prv (mdC F m) s h rs) ∧ New w w') := by
  have HX := Lib.hid hx
  have HT := Lib.hid hT
  obtain ⟨vs, vh, rfl, ⟨A1, c1, rfl, -, -, -⟩, ⟨A2, c2, rfl, -, -, -⟩, ks, kh, ls, lh⟩ := hx
  rw [keysV_len] at HX ⊢
  rw [keysV_len] at HX ⊢
  have HK := Lib.hid (And.intro ks kh)
  clear ks kh hT
  obtain ⟨A, c, rfl, b1, b2⟩ := ht.form
  obtain ⟨gb, go, rfl, hl, hat⟩ := tbl_at ht hf
  rw [hl] at b1 ⊢
  have HAT := Lib.hid hat
  have HLE := Lib.hid (fun (i k : Nat) (hi : i ≤ s.length) (hk : k ≤ h.length) => tbl_le hf hi hk)
  clear hat ht hf hl
  generalize hcc : mdC F m = cc at *
  have HCC := Lib.hid hcc
  clear hcc
  generalize medT m = tm at *
  have HR := Lib.hid (RowIs.new w 83 [.iface tm (.agg #[]), .slice A1 s.length c1, .slice A2 h.length c2])
  have HN := Lib.hid ((New.refl w).alloc (.cells #[.iface tm (.agg #[]), .slice A1 s.length c1, .slice A2 h.length c2] 83))
  go_enter Tryd.func52, Tryd.ntmps52
  go_wp2_with fail
  generalize hW : w.alloc (.cells #[.iface tm (.agg #[]), .slice A1 s.length c1, .slice A2 h.length c2] 83) = W at *
  clear hW
  go_loopw [15] (fun s15 wr => ∃ i : Nat, i ≤ s.length + 1 ∧ s15 = .int .i64 i ∧ New W wr ∧ ∀ x y, x < i → y ≤ h.length → PrvAt cc s h rs (x, y)) (fun i _ => s.length + 1 - (intOf i).toNat)
  case atStart => exact ⟨0, Nat.zero_le _, rfl, New.refl _, fun x y h => by omega⟩
  case round =>
    obtain ⟨i, hi, rfl, hn, hp⟩ := hrel
    have HNI := Lib.hid hn
    have HPI := Lib.hid hp
    clear hn hp
    by_cases hlt : i < s.length + 1
    · obtain ⟨gx, ox, cx, ⟨cx1, cx2⟩, hrow⟩ := HAT.out i (by omega)
      have HROW := Lib.hid hrow
      have hu := (hrow wr (HN.out.trans HNI.out)).1
      clear hrow
      have i1 : (i : Int) < (s.length : Int) + 1 := by omega
      go_wp2_with fail
      clear hu
      go_loopw [22] (fun s22 wx => ∃ k : Nat, k ≤ h.length + 1 ∧ s22 = .int .i64 k ∧ New W wx ∧ ∀ y, y < k → PrvAt cc s h rs (i, y)) (fun k _ => h.length + 1 - (intOf k).toNat)
      case atStart => exact ⟨0, Nat.zero_le _, rfl, HNI.out, fun y h => by omega⟩
      case round =>
        obtain ⟨k, hk, rfl, hn, hp⟩ := hrel
        have HNK := Lib.hid hn
        have HPK := Lib.hid hp
        clear hn hp
        by_cases hkt : k < h.length + 1
        · have hx := (HROW.out wr (HN.out.trans HNK.out)).2 k (by omega)
          have hxb := HLE.out i k (by omega) (by omega)
          have i2 : (k : Int) < (h.length : Int) + 1 := by omega
          have HPL := Lib.hid (RowIs.new wr 88 [.int .i64 i, .int .i64 k])
          have HNP := Lib.hid (HNK.out.trans ((New.refl wr).alloc (.cells #[.int .i64 i, .int .i64 k] 88)))
          have x0 := fun o => cell_alloc_some o ((HR.out.keep HNK.out).cell (i := 0) rfl)
          have x1 := fun o => cell_alloc_some o ((HR.out.keep HNK.out).cell (i := 1) rfl)
          have x2 := fun o => cell_alloc_some o ((HR.out.keep HNK.out).cell (i := 2) rfl)
          have hw0 : (wr.alloc (.cells #[.int .i64 i, .int .i64 k] 88)).heap.size = wr.heap.size + 1 := by simp
          go_wp2_with fail
          generalize hWP : wr.alloc (.cells #[.int .i64 i, .int .i64 k] 88) = Wp at *
          clear hWP x0 x1 x2 hx
          have HSTP := Lib.hid (cp_steps F m s h _ (i, k) Wp (HT.out.keep (HN.out.trans HNP.out)) (HX.out.keep (HN.out.trans HNP.out)) ⟨by show i ≤ _; omega, by show k ≤ _; omega⟩)
          rw [HCC.out] at HSTP
          refine HSTP.out.mono ?_
          rintro e w1 ⟨sv, rfl, sts, n1⟩
          clear HSTP
          obtain ⟨SA, SC, rfl⟩ := owns_form sts
          have HMEM : Hid (∀ t ∈ stpsL cc s h (i, k), InL s h (aftL (i, k) t) ∧ t.2.2 ≤ 10) := Lib.hid (fun t ht => ⟨(stps_in ht ⟨by show i ≤ _; omega, by show k ≤ _; omega⟩).1, by rw [← HCC.out] at ht; exact stps_cost HK.out.1 HK.out.2 ht⟩)
          have hL3 := stpsL_len (c := cc) (s := s) (h := h) (i, k)
          generalize hL : stpsL cc s h (i, k) = L at *
          have HLL := Lib.hid hL
          clear hL
          have HSTS := Lib.hid sts
          have HN1 := Lib.hid n1
          clear sts n1
          go_wp2_with fail
          go_loopw [34] (fun s34 wz => ∃ j : Nat, j ≤ L.length ∧ s34 = .int .i64 j ∧ New w1 wz ∧ ∀ y t, y < j → L[y]? = some t → tAt rs (aftL (i, k) t) ≤ tAt rs (i, k) + (t.2.2 : Int)) (fun j _ => L.length - (intOf j).toNat)
          case atStart => exact ⟨0, Nat.zero_le _, rfl, New.refl _, fun y t h => by omega⟩
          case round =>
            obtain ⟨j, hj, rfl, hn, hp⟩ := hrel
            have HNJ := Lib.hid hn
            have HPJ := Lib.hid hp
            clear hn hp
            by_cases hjt : j < L.length
            · have HLJ := Lib.hid (List.getElem?_eq_getElem hjt)
              have HMJ := Lib.hid (HMEM.out _ (List.getElem_mem hjt))
              have hst := (HSTS.out.keep HNJ.out).cells HLJ.out
              generalize L[j] = t at *
              obtain ⟨g', c', hgc, -, -, -, y0, y1, y2⟩ := hst
              simp only [Value.slice.injEq] at hgc
              obtain ⟨rfl, -, rfl⟩ := hgc
              obtain ⟨S, H0, C⟩ := t
              simp only at y0 y1 y2
              have i3 : (j : Int) < (L.length : Int) := by omega
              have HAF : Hid (∀ w', Calls Tryd.prog 49 #[.agg #[.int .i64 i, .int .i64 k], .agg #[.int .i64 S, .int .i64 H0, .int .i64 C]] w' fun e w'' => e = .returned (plV (aftL (i, k) (S, H0, C))) ∧ New w' w'') :=
                Lib.hid (fun w' => cp_after (i, k) (S, H0, C) w' (by show i ≤ _; omega) (by show k ≤ _; omega))
              have hqi := HMJ.out.1
              have hC : C ≤ 10 := HMJ.out.2
              generalize hq : aftL (i, k) (S, H0, C) = q at *
              obtain ⟨qi, qk⟩ := q
              have HQ := Lib.hid hq
              unfold plV at HAF
              simp only at HAF
              obtain ⟨hq1, hq2⟩ := hqi
              simp only at hq1 hq2
              have hyb := HLE.out qi qk hq1 hq2
              obtain ⟨gy, oy, cy, ⟨cy1, cy2⟩, hrowy⟩ := HAT.out qi hq1
              have HROWY := Lib.hid hrowy
              clear hq hrowy
              have HNZ := Lib.hid (HNP.out.trans (HN1.out.trans HNJ.out))
              have HPZ := Lib.hid (HPL.out.keep (HN1.out.trans HNJ.out))
              have HRS := Lib.hid (RowIs.new wr 51 [.int .i64 S, .int .i64 H0, .int .i64 C])
              have p0 := fun o => cell_alloc_some o (HPZ.out.cell (i := 0) rfl)
              have p1 := fun o => cell_alloc_some o (HPZ.out.cell (i := 1) rfl)
              have HNB := Lib.hid ((New.refl wr).alloc (.cells #[.int .i64 S, .int .i64 H0, .int .i64 C] 51))
              go_wp2_with fail
              refine (HAF.out _).mono ?_
              rintro e w5 ⟨rfl, n5⟩
              have HN5 := Lib.hid (HNZ.out.trans (HNB.out.trans n5))
              have HTO := Lib.hid (RowIs.new w5 88 [.int .i64 qi, .int .i64 qk])
              have ka := (New.refl w5).alloc (.cells #[.int .i64 qi, .int .i64 qk] 88)
              have HN6 := Lib.hid (HN5.out.trans ka)
              have HRS6 := Lib.hid ((HRS.out.keep n5).keep ka)
              have HNW1 := Lib.hid ((HNJ.out.trans (HNB.out.trans n5)).trans ka)
              clear y0 y1 y2 p0 p1 n5 ka
              go_wp2_with fail
              generalize hW6 : w5.alloc (.cells #[.int .i64 qi, .int .i64 qk] 88) = W6 at *
              clear hW6
              have t0 := HTO.out.cell (i := 0) rfl
              have t1 := HTO.out.cell (i := 1) rfl
              have s2 := HRS6.out.cell (i := 2) rfl
              have r1 := (HROWY.out W6 (HN.out.trans HN6.out)).1
              have r2 := (HROWY.out W6 (HN.out.trans HN6.out)).2 qk hq2
              have i4 : IntKind.i64.wrap (tAt rs (i, k) + (C : Int)) = tAt rs (i, k) + (C : Int) := IntWalk.i64_in _ (by omega)
              have i5 : (qi : Int) < (s.length : Int) + 1 := by omega
              have i6 : (qk : Int) < (h.length : Int) + 1 := by omega
              have i7 : (0 : Int) ≤ (qi : Int) := by omega
              have i8 : (0 : Int) ≤ (qk : Int) := by omega
              by_cases hgt : tAt rs (i, k) + (C : Int) < tAt rs (qi, qk)
              · go_quiet (fail)
                go_wp2_with fail
                go_ret
                refine ⟨_, rfl, ⟨(fun h => by cases h), (fun hP => ?_)⟩, HN.out.trans (HN6.out.drewN _)⟩
                have h1 := hP i k (by omega) (by omega) (S, H0, C) (by
                  rw [HLL.out]
                  exact List.mem_of_getElem? HLJ.out)
                rw [HQ.out] at h1
                exact absurd h1 (by simp only; omega)
              · go_quiet (fail)
                go_wp2_with fail
                refine ⟨⟨j + 1, by omega, by go_num, ?_, fun y t hy ht => ?_⟩, by simp [intOf]; omega⟩
                · exact HNW1.out.drewN _
                · rcases Nat.lt_succ_iff_lt_or_eq.1 hy with hy | rfl
                  · exact HPJ.out y t hy ht
                  · obtain rfl : t = (S, H0, C) := by rw [HLJ.out] at ht; exact (Option.some.inj ht).symm
                    rw [HQ.out]
                    simp only
                    omega
            · obtain rfl : j = L.length := by omega
              go_wp2_with fail
              have hpa : PrvAt cc s h rs (i, k) := fun t ht => by
                rw [HLL.out] at ht
                obtain ⟨y, hy, rfl⟩ := List.getElem_of_mem ht
                exact HPJ.out y _ hy (List.getElem?_eq_getElem hy)
              refine ⟨⟨k + 1, by omega, by go_num, HNP.out.trans (HN1.out.trans HNJ.out), fun y hy => ?_⟩, by simp [intOf]; omega⟩
              rcases Nat.lt_succ_iff_lt_or_eq.1 hy with hy | rfl
              · exact HPK.out y hy
              · exact hpa
        · obtain rfl : k = h.length + 1 := by omega
          go_wp2_with fail
          refine ⟨⟨i + 1, by omega, by go_num, HNK.out, fun x y hx hy => ?_⟩, by simp [intOf]; omega⟩
          rcases Nat.lt_succ_iff_lt_or_eq.1 hx with hx | rfl
          · exact HPI.out x y hx hy
          · exact HPK.out y (by omega)
    · obtain rfl : i = s.length + 1 := by omega
      go_wp2_with fail
      go_ret
      exact ⟨_, rfl, ⟨fun _ i k hi hk => HPI.out i k (by omega) hk, fun _ => rfl⟩, HN.out.trans HNI.out⟩
/-- What CheckTable returns: the end's element of a table that is accepted, or an error. -/
def TblSays (c : Cs Nat) (a b : List Nat) (rs : List (List Int)) (C E : Int) : Prop :=
  (E = 0 ∧ C = tAt rs (a.length, b.length) ∧ Fits a b rs ∧ tAt rs (0, 0) = 0 ∧ Prv c a b rs) ∨ (E = 42 ∧ C = 0 ∧ ¬ (Fits a b rs ∧ tAt rs (0, 0) = 0 ∧ Prv c a b rs))
set_option maxRecDepth 100000 in
set_option maxHeartbeats 2000000 in
theorem cp_CheckTable_ok (F : List Bytes) (m : Md) (mode : Int) (s h : Bytes) (rs : List (List Int)) (v : Value) (w : World) (hT : TabAt w F) (hv : TblAt w v rs) (hm : mdOf mode = some m) {a b : List Nat} (ha : keysOf s = some a) (hb : keysOf h = some b) (ls : s.length ≤ 64) (lh : h.length ≤ 64) :
    Calls Tryd.prog 27 #[.int .i64 mode, .string (B s), .string (B h), v] w fun e w' => ∃ C E, e = .returned (.tuple #[.int .i64 C, .int .i64 E]) ∧ (TblSays (mdC F m) a b rs C E ∧ New w w') := by
  have hc := cp_newHearing_ok m mode s h w hm ls lh ha hb
  have la : a.length ≤ 64 := by rw [keysOf_len ha]; exact ls
  have lb : b.length ≤ 64 := by rw [keysOf_len hb]; exact lh
  have HC := Lib.hid hc
  have HT := Lib.hid hT
  have HV := Lib.hid hv
  have HK := Lib.hid (And.intro (keysOf_lt ha) (keysOf_lt hb))
  obtain ⟨A, c, rfl, b1, b2⟩ := hv.form
  clear hc hT hm ha hb hv
  have HS : Hid (∀ C E, TblSays (mdC F m) a b rs C E → TblSays (mdC F m) a b rs C E) := Lib.hid (fun _ _ h => h)
  unfold hearV at HC
  rw [medV_eq] at HC
  go_enter Tryd.func27, Tryd.ntmps27
  go_wp2_with fail
  refine HC.out.mono ?_
  rintro e w1 ⟨g1, g2, rfl, h1, r1, r2⟩
  have hx := hear_made (m := m) r1 r2 HK.out.1 HK.out.2 la lb
  unfold ksl at hx ⊢
  generalize htm : medT m = tm at *
  have HX1 := Lib.hid hx
  have HN1 := Lib.hid h1
  clear hx r1 r2 h1 HC
  have HRB := Lib.hid (RowIs.new w1 83 [.iface tm (.agg #[]), .slice (some ⟨g1, 0, none⟩) a.length a.length, .slice (some ⟨g2, 0, none⟩) b.length b.length])
  have k2 := (New.refl w1).alloc (.cells #[.iface tm (.agg #[]), .slice (some ⟨g1, 0, none⟩) a.length a.length, .slice (some ⟨g2, 0, none⟩) b.length b.length] 83)
  have HX2 := Lib.hid (HX1.out.keep k2)
  have HN2 := Lib.hid (HN1.out.trans k2)
  have HT2 := Lib.hid (HT.out.keep HN2.out)
  have HV2 := Lib.hid (HV.out.keep HN2.out)
  clear k2 HX1 HN1 HT HV
  go_wp2_with fail
  generalize hWdef : w1.alloc (.cells #[.iface tm (.agg #[]), .slice (some ⟨g1, 0, none⟩) a.length a.length, .slice (some ⟨g2, 0, none⟩) b.length b.length] 83) = W at *
  clear hWdef
  have hft := cp_fits m a b _ _ rs W HX2.out HV2.out
  refine hft.mono ?_
  rintro e w3 ⟨rfl, n3⟩
  have HN3 := Lib.hid n3
  clear n3 hft
  have hfi := fitB_iff (s := a) (h := b) (rs := rs)
  cases hfb : fitB a b rs with
  | false =>
    rw [hfb] at hfi
    have hnf : TblSays (mdC F m) a b rs 0 42 := .inr ⟨rfl, rfl, fun hh => by cases hfi.2 hh.1⟩
    have HNF := Lib.hid hnf
    clear hfi hnf hfb
    go_wp2_with fail
    go_ret2
    exact ⟨_, _, rfl, HNF.out, HN2.out.trans HN3.out⟩
  | true =>
    have hf := hfi.1 hfb
    obtain ⟨gb, go, rfl, hl, hat⟩ := tbl_at HV2.out hf
    obtain ⟨gx, ox, cx, ⟨cx1, cx2⟩, hrow⟩ := hat 0 (Nat.zero_le _)
    have r1 := (hrow w3 HN3.out).1
    have r2 := (hrow w3 HN3.out).2 0 (Nat.zero_le _)
    have HAT := Lib.hid hat
    have HF := Lib.hid hf
    rw [hl] at b1 HV2 ⊢
    clear hl
    rw [Nat.add_zero] at r1 r2
    have hrl : (0 : Int) < (a.length : Int) + 1 := by omega
    have hbl : (0 : Int) < (b.length : Int) + 1 := by omega
    clear hfi hfb hat hf hrow
    by_cases h0 : tAt rs (0, 0) = 0
    · have q0 := (HRB.out.keep HN3.out).cell (i := 0) rfl
      have q1 := (HRB.out.keep HN3.out).cell (i := 1) rfl
      have q2 := (HRB.out.keep HN3.out).cell (i := 2) rfl
      rw [h0] at r2
      have hpr := cp_proves F m a b _ _ rs w3 (HT2.out.keep HN3.out) (HX2.out.keep HN3.out) (HV2.out.keep HN3.out) HF.out
      have HPR := Lib.hid hpr
      clear hpr
      go_wp2_with fail
      refine HPR.out.mono ?_
      rintro e w4 ⟨R, rfl, hR, n4⟩
      have HN4 := Lib.hid (HN3.out.trans n4)
      clear n4 r1 r2 q0 q1 q2 HPR
      cases R with
      | false =>
        have hnf : TblSays (mdC F m) a b rs 0 42 := .inr ⟨rfl, rfl, fun hh => by cases hR.2 hh.2.2⟩
        have HNF := Lib.hid hnf
        clear hR hnf
        go_wp2_with fail
        go_ret2
        exact ⟨_, _, rfl, HNF.out, HN2.out.trans HN4.out⟩
      | true =>
        have hok : TblSays (mdC F m) a b rs (tAt rs (a.length, b.length)) 0 := .inl ⟨rfl, rfl, HF.out, h0, hR.1 rfl⟩
        have HOK := Lib.hid hok
        have q0 := (HRB.out.keep HN4.out).cell (i := 0) rfl
        have q1 := (HRB.out.keep HN4.out).cell (i := 1) rfl
        have q2 := (HRB.out.keep HN4.out).cell (i := 2) rfl
        have hen := cp_end m a b _ w4 (HX2.out.keep HN4.out)
        unfold plV at hen
        simp only at hen
        have HEN := Lib.hid hen
        clear hok hR hen
        go_wp2_with fail
        refine HEN.out.mono ?_
        rintro e w5 ⟨rfl, n5⟩
        have HTO := Lib.hid (RowIs.new w5 88 [.int .i64 a.length, .int .i64 b.length])
        have ka := (New.refl w5).alloc (.cells #[.int .i64 a.length, .int .i64 b.length] 88)
        have HN6 := Lib.hid ((HN4.out.trans n5).trans ka)
        clear q0 q1 q2 n5 ka
        go_wp2_with fail
        generalize hW6 : w5.alloc (.cells #[.int .i64 a.length, .int .i64 b.length] 88) = W6 at *
        clear hW6
        have t0 := HTO.out.cell (i := 0) rfl
        have t1 := HTO.out.cell (i := 1) rfl
        obtain ⟨gy, oy, cy, ⟨cy1, cy2⟩, hrowy⟩ := HAT.out a.length (Nat.le_refl _)
        have r1 := (hrowy W6 HN6.out).1
        have r2 := (hrowy W6 HN6.out).2 b.length (Nat.le_refl _)
        clear hrowy
        have i5 : (a.length : Int) < (a.length : Int) + 1 := by omega
        have i6 : (b.length : Int) < (b.length : Int) + 1 := by omega
        have i7 : (0 : Int) ≤ (a.length : Int) := by omega
        have i8 : (0 : Int) ≤ (b.length : Int) := by omega
        go_quiet (fail)
        go_wp2_with fail
        go_ret2
        exact ⟨_, _, rfl, HOK.out, HN2.out.trans (HN6.out.drewN _)⟩
    · have hnf : TblSays (mdC F m) a b rs 0 42 := .inr ⟨rfl, rfl, fun hh => h0 hh.2.1⟩
      have HNF := Lib.hid hnf
      have h02 : (tAt rs (0, 0) != 0) = true := by rw [bne_iff_ne]; exact h0
      clear hnf h0
      go_wp2_with fail
      go_ret2
      exact ⟨_, _, rfl, HNF.out, HN2.out.trans HN3.out⟩
end Go.Proofs.YthodoabppkeidaaDoor
