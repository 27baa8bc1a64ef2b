/-
  TabFind, TabClash, TabOpen, TabValid, TabRefV. What is proved in each, and on what conditions, its own head says.
-/
import Derived.Test.YtkbdmdnahphkkaaGreatDoorTabMap
/-
  find, firstClash, openTable, ValidTable, Overlap of the program. Conditions: the texts are in memory.
-/
namespace Go.Proofs.YtkbdmdnahphkkaaGreatDoor
open Go.RowKit
/-- A slice of numbers in memory. -/
def IntsAt (w : World) (v : Value) (zs : List Nat) : Prop :=
  (v = .slice none 0 0 ∧ zs = []) ∨ ∃ g cap, v = .slice (some ⟨g, 0, none⟩) zs.length cap ∧ ∀ j (h : j < zs.length), w.cell? ⟨g, j, none⟩ = some (.int .i64 (zs[j] : Nat))
theorem IntsAt.keep {w w' : World} {v : Value} {zs : List Nat} (h : IntsAt w v zs) (k : New w w') : IntsAt w' v zs := by
  rcases h with h | ⟨g, cap, e, hc⟩
  · exact .inl h
  · exact .inr ⟨g, cap, e, fun j hj => k.cellOf (hc j hj)⟩
theorem ints_of_owns {w : World} {base e : Nat} {v : Value} {ns : List Nat} (h : w.ownsInts base e .i64 v (ns.map Int.ofNat)) : IntsAt w v ns := by
  obtain ⟨⟨hl, h2⟩, _⟩ := h
  rcases h2 with ⟨rfl, h0⟩ | ⟨g, cap, cur, rfl, hb, hh, h3, h4, h5, h6⟩
  · exact .inl ⟨rfl, by simpa using h0⟩
  · refine .inr ⟨g, cap, by simp, fun j hj => ?_⟩
    have h7 : cur.toList[j]? = some (.int .i64 (ns[j] : Nat)) := by
      have h8 : (cur.toList.take ((ns.map Int.ofNat).length * 1))[j]? = some (.int .i64 (ns[j] : Nat)) := by
        rw [h6]
        simp [hj]
      rw [List.getElem?_take] at h8
      split at h8
      · exact h8
      · cases h8
    have h9 : cur[j]? = some (.int .i64 (ns[j] : Nat)) := by simpa using h7
    rw [cell_of_row _ _ j _ _ _ hh]
    exact h9
theorem MapAt.look {w : World} {base b n : Nat} {l : List Rw} (h : MapAt w base b l n) (hn : n < maxLen) (t : Bytes) (wh : Bool) (ht : t.length ≤ maxLen) :
    ∃ v, (Instr.lookup 64 (.map (some b)) (keyV t wh) false).run Tryz.prog w = .ok v w ∧ IntsAt w v (idxN l t wh n) := by
  obtain ⟨D, h1, h2, h3⟩ := h
  obtain ⟨v, zs, hrun, hat, hoi, _, _⟩ := h1.at key_law Tryz.underlying64 (zero_ints w) hn (key_reads t wh ht)
  rw [h3 t wh ht] at hat
  obtain rfl := gd_row hoi hat
  exact ⟨v, hrun, ints_of_owns hoi⟩
def optI : Option Nat → Int
  | some i => i
  | none => 0
theorem find_cons_t {p : Nat → Bool} {x : Nat} {l : List Nat} (h : p x = true) : (x :: l).find? p = some x := by simp [h]
theorem find_cons_f {p : Nat → Bool} {x : Nat} {l : List Nat} (h : p x = false) : (x :: l).find? p = l.find? p := by simp [h]
set_option maxHeartbeats 2000000 in
theorem air_find (A : Option Addr) (n c base b : Nat) (l : List Rw) (t : Bytes) (wh : Bool) (d : Int) (w : World) (hl : RowsAt w A n l) (hm : MapAt w base b l n) (hn : n ≤ 400) (ht : t.length ≤ maxLen) :
    Calls Tryz.prog 64 #[.agg #[.slice A n c, .map (some b)], keyV t wh, .int .i64 d] w fun e w' => e = .returned (.tuple #[.int .i64 (optI (hitN l t wh d n)), .bool (hitN l t wh d n).isSome]) ∧ New w w' := by
  have HL := Lib.hid hl
  have HN := Lib.hid (((New.refl w).alloc (.cells #[.slice A n c, .map (some b)] 67)).alloc (.cells #[.string (B t), .bool wh] 112))
  obtain ⟨v, hrun, hv⟩ := (hm.keep HN.out).look (by unfold maxLen; omega) t wh ht
  unfold keyV at *
  have HE := Lib.hid (idx_find l t wh n (fun i => forceB d (rowN l i)))
  clear hl hm
  go_enter Tryz.func64, Tryz.ntmps64
  rcases hv with ⟨rfl, h0⟩ | ⟨g, cap, rfl, hc⟩
  · have HZ : Hid (hitN l t wh d n = none) := by
      have h := HE.out
      rw [h0] at h
      exact Lib.hid h.symm
    clear h0
    go_wp2_with fail
    go_loopw [15] (fun x wr => x = .int .i64 0 ∧ New w wr) (fun _ _ => 0)
    case atStart => exact ⟨rfl, HN.out⟩
    case round =>
      obtain ⟨rfl, hnew⟩ := hrel
      go_wp2_with fail
      go_ret2
      exact ⟨by rw [HZ.out]; rfl, hnew⟩
  · have hcr : ((w.alloc (.cells #[.slice A n c, .map (some b)] 67)).alloc (.cells #[.string (B t), .bool wh] 112)).cell? ⟨w.heap.size, 0, none⟩ = some (.slice A n c) := cell_alloc (by rw [cell_of_row _ _ 0 _ _ _ (heap_alloc_new w _)]; rfl) _
    have HIL := Lib.hid (fun x (hx : x ∈ idxN l t wh n) => idx_lt hx)
    have hil := idx_len l t wh n
    have HC := Lib.hid hc
    clear hc
    change Hid (List.find? _ (idxN l t wh n) = hitN l t wh d n) at HE
    generalize idxN l t wh n = ids at *
    go_wp2_with fail
    generalize (w.alloc (.cells #[.slice A n c, .map (some b)] 67)).alloc (.cells #[.string (B t), .bool wh] 112) = W at *
    clear hrun
    have HCR := Lib.hid hcr
    clear hcr
    go_loopw [15] (fun x wr => ∃ k : Nat, k ≤ ids.length ∧ x = .int .i64 k ∧ New W wr ∧ Hid (hitN l t wh d n = (ids.drop k).find? (fun i => forceB d (rowN l i)))) (fun x _ => ids.length - (intOf x).toNat)
    case atStart => exact ⟨0, by omega, rfl, New.refl W, Lib.hid HE.out.symm⟩
    case round =>
      obtain ⟨k, hk, rfl, hnew, HF⟩ := hrel
      by_cases hlt : k < ids.length
      · have hck := hnew.cellOf (HC.out k hlt)
        have hx := HIL.out _ (List.getElem_mem hlt)
        have HD := Lib.hid (List.drop_eq_getElem_cons hlt)
        generalize ids[k] = x at *
        obtain ⟨bb, off, r, rfl, hr, _, hrow⟩ := HL.out.row (HN.out.trans hnew) hx
        obtain ⟨c0, c1, c2, c3, c4, c5, c6⟩ := hrow
        have hcr := hnew.cellOf HCR.out
        have hrn : rowN l x = r := by simp [rowN, List.getD, hr]
        have HRN := Lib.hid hrn
        clear hr hrn
        have hx1 : (0 : Int) ≤ (x : Int) := by omega
        have hx2 : (x : Int) < (n : Int) := by omega
        go_wp2_with fail
        refine (air_inForce r d wr).mono ?_
        rintro e w' ⟨rfl, h1⟩
        cases hf : forceB d r with
        | true =>
          have HH : Hid (hitN l t wh d n = some x) := by
            have h := HF.out
            rw [HD.out, find_cons_t (by rw [HRN.out]; exact hf)] at h
            exact Lib.hid h
          clear hf c0 c1 c2 c3 c4 c5 c6 hcr hck
          go_wp2_with fail
          go_ret2
          exact ⟨by rw [HH.out]; rfl, HN.out.trans (hnew.trans h1)⟩
        | false =>
          have HH : Hid (hitN l t wh d n = (ids.drop (k + 1)).find? (fun i => forceB d (rowN l i))) := by
            have h := HF.out
            rw [HD.out, find_cons_f (by rw [HRN.out]; exact hf)] at h
            exact Lib.hid h
          clear hf c0 c1 c2 c3 c4 c5 c6 hcr hck
          go_wp2_with fail
          exact ⟨⟨k + 1, by omega, rfl, hnew.trans h1, HH⟩, by simp [intOf]; omega⟩
      · have HH : Hid (hitN l t wh d n = none) := by
          have h := HF.out
          rw [List.drop_eq_nil_of_le (by omega)] at h
          exact Lib.hid h
        go_wp2_with fail
        go_ret2
        exact ⟨by rw [HH.out]; rfl, HN.out.trans hnew⟩

end Go.Proofs.YtkbdmdnahphkkaaGreatDoor

/-
  firstClash, openTable, ValidTable, Overlap of the program. Conditions: the texts are in memory.
-/
namespace Go.Proofs.YtkbdmdnahphkkaaGreatDoor
open Go.RowKit
def clV : Option (Nat × Nat) → Value
  | some (i, k) => .tuple #[.int .i64 i, .int .i64 k, .bool true]
  | none => .tuple #[.int .i64 0, .int .i64 0, .bool false]
/-- Row k lies behind row i and has a day in common with r. -/
def meetB (l : List Rw) (r : Rw) (i k : Nat) : Bool := decide (i < k) && (decide ((rowN l k).frm ≤ r.til) && decide (r.frm ≤ (rowN l k).til))
theorem clash_find {l : List Rw} {r : Rw} {i : Nat} (hr : rowN l i = r) : clash1 l i = (idxN l r.text r.whole l.length).find? (meetB l r i) := by
  rw [idx_find]
  refine fst_congr (fun j _ => ?_)
  unfold clashB meetB
  rw [hr]
  cases decide (i < j) <;> simp
set_option maxRecDepth 100000 in
set_option maxHeartbeats 4000000 in
theorem air_firstClash (A : Option Addr) (n c base b : Nat) (l : List Rw) (w : World) (hl : RowsAt w A n l) (hm : MapAt w base b l n) (hn : n ≤ 400) (ht : TextsIn l) :
    Calls Tryz.prog 30 #[.slice A n c, .map (some b)] w fun e w' => e = .returned (clV (clashV l)) ∧ New w w' := by
  have hlen := hl.1
  have HL := Lib.hid hl
  have HM := Lib.hid hm
  have HT := Lib.hid ht
  have HLN := Lib.hid hlen
  clear hl hm ht hlen
  go_enter Tryz.func30, Tryz.ntmps30
  go_wp2_with fail
  go_loopw [13] (fun x wr => ∃ k : Nat, k ≤ n ∧ x = .int .i64 k ∧ New w wr ∧ Hid (∀ j, j < k → clash1 l j = none)) (fun x _ => n - (intOf x).toNat)
  case atStart => exact ⟨0, by omega, rfl, New.refl w, Lib.hid (fun j hj => by omega)⟩
  case round =>
    obtain ⟨k, hk, rfl, hnew, HK⟩ := hrel
    by_cases hlt : k < n
    · obtain ⟨bb, off, r, rfl, hr, _, hrow⟩ := HL.out.row hnew hlt
      obtain ⟨c0, c1, c2, c3, c4, c5, c6⟩ := hrow
      have hrn : rowN l k = r := by simp [rowN, List.getD, hr]
      have HCF : Hid (clash1 l k = (idxN l r.text r.whole n).find? (meetB l r k)) := by
        have h := clash_find hrn
        rw [HLN.out] at h
        exact Lib.hid h
      have htx : r.text.length ≤ maxLen := by unfold maxLen; exact HT.out r (List.mem_of_getElem? hr)
      have HRI := Lib.hid (RowIn.new wr r)
      have HN1 := Lib.hid (hnew.trans ((New.refl wr).alloc (.cells #[.string (B r.text), .int .i64 r.country, .int .i64 r.zone, .int .i64 r.cont, .int .i64 r.frm, .int .i64 r.til, .bool r.whole] 49)))
      clear hr hrn
      go_wp2_with fail
      refine (air_keyOf r _).mono ?_
      rintro e w1 ⟨rfl, h1⟩
      replace HRI := Lib.hid (HRI.out.keep h1)
      replace HN1 := Lib.hid (HN1.out.trans h1)
      clear h1 c0 c1 c2 c3 c4 c5 c6
      obtain ⟨v, hrun, hv⟩ := (HM.out.keep HN1.out).look (by unfold maxLen; omega) r.text r.whole htx
      rcases hv with ⟨rfl, h0⟩ | ⟨g, cap, rfl, hc⟩
      · have HZ : Hid (clash1 l k = none) := by
          have h := HCF.out
          rw [h0] at h
          exact Lib.hid h
        clear h0
        go_wp2_with fail
        go_loopw [23] (fun x wr => x = .int .i64 0 ∧ New w1 wr) (fun _ _ => 0)
        case atStart => exact ⟨rfl, New.refl w1⟩
        case round =>
          obtain ⟨rfl, hnew2⟩ := hrel
          go_wp2_with fail
          exact ⟨⟨k + 1, by omega, rfl, HN1.out.trans hnew2, Lib.hid (fun j hj => by
            by_cases hjk : j = k
            · rw [hjk]; exact HZ.out
            · exact HK.out j (by omega))⟩, by simp [intOf]; omega⟩
      · have HIL := Lib.hid (fun x (hx : x ∈ idxN l r.text r.whole n) => idx_lt hx)
        have hil := idx_len l r.text r.whole n
        have HC := Lib.hid hc
        clear hc
        generalize idxN l r.text r.whole n = ids at *
        go_wp2_with fail
        clear hrun
        go_loopw [23] (fun x wr => ∃ q : Nat, q ≤ ids.length ∧ x = .int .i64 q ∧ New w1 wr ∧ Hid (clash1 l k = (ids.drop q).find? (meetB l r k))) (fun x _ => ids.length - (intOf x).toNat)
        case atStart => exact ⟨0, by omega, rfl, New.refl w1, HCF⟩
        case round =>
          obtain ⟨q, hq, rfl, hnew2, HF⟩ := hrel
          have HNB := Lib.hid (HN1.out.trans hnew2)
          by_cases hlq : q < ids.length
          · have hck := hnew2.cellOf (HC.out q hlq)
            have hx := HIL.out _ (List.getElem_mem hlq)
            have HD := Lib.hid (List.drop_eq_getElem_cons hlq)
            generalize ids[q] = x at *
            obtain ⟨bb2, off2, y, hA, hy, _, hrow2⟩ := HL.out.row HNB.out hx
            injection hA with hA
            injection hA with hA1 hA2 hA3
            subst hA1 hA2
            obtain ⟨c0, c1, c2, c3, c4, c5, c6⟩ := hrow2
            obtain ⟨r0, r1, r2, r3, r4, r5, r6⟩ := (HRI.out.keep hnew2).cells
            simp only [Nat.zero_add] at r1 r2 r3 r4 r5 r6
            have HMB : Hid (meetB l r k x = (decide (k < x) && (decide (y.frm ≤ r.til) && decide (r.frm ≤ y.til)))) := by
              have hyn : rowN l x = y := by simp [rowN, List.getD, hy]
              have h : meetB l r k x = (decide (k < x) && (decide (y.frm ≤ r.til) && decide (r.frm ≤ y.til))) := by unfold meetB; rw [hyn]
              exact Lib.hid h
            clear hy
            have hx1 : (0 : Int) ≤ (x : Int) := by omega
            have hx2 : (x : Int) < (n : Int) := by omega
            have HNO : Hid (meetB l r k x = false → clash1 l k = (ids.drop (q + 1)).find? (meetB l r k)) := Lib.hid (fun hf => by
              have h := HF.out
              rw [HD.out, find_cons_f hf] at h
              exact h)
            cases g1 : decide (k < x) with
            | false =>
              have HG := Lib.hid (HNO.out (by rw [HMB.out, g1]; rfl))
              go_wp2_with fail
              go_quiet (fail)
              clear c0 c1 c2 c3 c4 c5 c6 r0 r1 r2 r3 r4 r5 r6 hck g1
              go_wp2_with fail
              exact ⟨⟨q + 1, by omega, rfl, hnew2.drewN _, HG⟩, by simp [intOf]; omega⟩
            | true =>
              cases g2 : decide (y.frm ≤ r.til) with
              | false =>
                have HG := Lib.hid (HNO.out (by rw [HMB.out, g1, g2]; rfl))
                go_wp2_with fail
                go_quiet (fail)
                clear c0 c1 c2 c3 c4 c5 c6 r0 r1 r2 r3 r4 r5 r6 hck g1 g2
                go_wp2_with fail
                exact ⟨⟨q + 1, by omega, rfl, hnew2.drewN _, HG⟩, by simp [intOf]; omega⟩
              | true =>
                cases g3 : decide (r.frm ≤ y.til) with
                | false =>
                  have HG := Lib.hid (HNO.out (by rw [HMB.out, g1, g2, g3]; rfl))
                  go_wp2_with fail
                  go_quiet (fail)
                  clear c0 c1 c2 c3 c4 c5 c6 r0 r1 r2 r3 r4 r5 r6 hck g1 g2 g3
                  go_wp2_with fail
                  exact ⟨⟨q + 1, by omega, rfl, hnew2.drewN _, HG⟩, by simp [intOf]; omega⟩
                | true =>
                  have HG : Hid (clashV l = some (k, x)) := by
                    have h := HF.out
                    rw [HD.out, find_cons_t (by rw [HMB.out, g1, g2, g3]; rfl)] at h
                    exact Lib.hid (clashV_some (by rw [HLN.out]; exact hlt) h HK.out)
                  go_wp2_with fail
                  go_quiet (fail)
                  clear c0 c1 c2 c3 c4 c5 c6 r0 r1 r2 r3 r4 r5 r6 hck g1 g2 g3
                  go_wp2_with fail
                  go_ret3
                  exact ⟨by rw [HG.out]; rfl, HNB.out.drewN _⟩
          · have HZ : Hid (clash1 l k = none) := by
              have h := HF.out
              rw [List.drop_eq_nil_of_le (by omega)] at h
              exact Lib.hid h
            go_wp2_with fail
            exact ⟨⟨k + 1, by omega, rfl, HNB.out, Lib.hid (fun j hj => by
              by_cases hjk : j = k
              · rw [hjk]; exact HZ.out
              · exact HK.out j (by omega))⟩, by simp [intOf]; omega⟩
    · have HZ : Hid (clashV l = none) := Lib.hid (clashV_none (fun j hj => HK.out j (by rw [HLN.out] at hj; omega)))
      go_wp2_with fail
      go_ret3
      exact ⟨by rw [HZ.out]; rfl, hnew⟩

end Go.Proofs.YtkbdmdnahphkkaaGreatDoor

/-
  openTable, ValidTable, Overlap of the program. Conditions: the texts are in memory.
-/
namespace Go.Proofs.YtkbdmdnahphkkaaGreatDoor
open Go.RowKit
/-- Whether a table is valid. -/
def tabB (l : List Rw) : Bool := rowsB l && (clashV l).isNone
theorem rowsB_len {l : List Rw} (h : rowsB l = true) : l.length ≤ 400 := by
  unfold rowsB at h
  simp at h
  exact h.1
def OpenPost (A : Option Addr) (n c : Nat) (l : List Rw) (w : World) (e : Ending) (w' : World) : Prop :=
  ∃ (A' : Option Addr) (n' c' : Nat) (m : Option Nat), e = .returned (.tuple #[.agg #[.slice A' n' c', .map m], .bool (tabB l)]) ∧ New w w' ∧ (tabB l = true → ∃ base b, Value.slice A' n' c' = .slice A n c ∧ m = some b ∧ MapAt w' base b l n ∧ w.heap.size ≤ b)
theorem cl_isNone (o : Option (Nat × Nat)) : (clV o = .tuple #[.int .i64 0, .int .i64 0, .bool false] ∧ o.isNone = true) ∨ ∃ i k : Nat, clV o = .tuple #[.int .i64 i, .int .i64 k, .bool true] ∧ o.isNone = false := by
  cases o with
  | none => exact .inl ⟨rfl, rfl⟩
  | some p => exact .inr ⟨p.1, p.2, rfl, rfl⟩
theorem two_all {w : World} {g : Nat} {v0 v1 : Value} {t : TypeId} (h : w.heap[g]? = some (.cells #[v0, v1] t (0, 0))) :
    w.cell? ⟨g, 0, none⟩ = some v0 ∧ w.cell? ⟨g, 1, none⟩ = some v1 ∧ w.frozen? ⟨g, 0, none⟩ = false ∧ w.frozen? ⟨g, 1, none⟩ = false := by
  refine ⟨?_, ?_, ?_, ?_⟩
  · rw [cell_of_row _ _ 0 _ _ _ h]; rfl
  · rw [cell_of_row _ _ 1 _ _ _ h]; rfl
  · simp [World.frozen?, h]
  · simp [World.frozen?, h]
theorem groups_beside {w w' : World} {base b n : Nat} {D : DataW Unit} {row : Option Nat} (h : w.ownsGroups Tryz.prog 112 base 3 .i64 b n D) (k : w.grownBy w' row) (hr : ∀ i, row = some i → i < b) :
    w'.ownsGroups Tryz.prog 112 base 3 .i64 b n D := by
  obtain ⟨es, clock, hb, F, hs, hD, hbb, hlen, hap⟩ := h
  have hblt : b < w.heap.size := (Array.getElem?_eq_some_iff.1 hb).1
  have ne : ∀ {v : Value} {zs : List Int}, w.ownsInts base 3 .i64 v zs → v.ownBlock = none ∨ v.ownBlock ≠ row := fun {v zs} ho => by
    cases hv : v.ownBlock with
    | none => exact .inl rfl
    | some g =>
      refine .inr (fun e => ?_)
      have h1 := (ho.1.lt g hv).1
      have h2 := hr g e.symm
      omega
  have hs2 : ∀ x ∈ es.toList, ∀ z, rowElem (H := Unit) w base 3 .i64 x.val = some z → rowElem w' base 3 .i64 x.val = some z := by
    intro x _ z hz
    obtain ⟨ys, ho, rfl⟩ := rowElem_inv hz
    exact rowElem_mk (ho.kept k (ne ho))
  obtain ⟨F2, hmap2, _⟩ := F.stay hs2
  refine ⟨es, clock, (k.block b hblt (fun e => by have := hr b e.symm; omega)).trans hb, F2, hs, by rw [hmap2]; exact hD, hbb, ?_, hap⟩
  intro x hx zs ho
  obtain ⟨y, hy⟩ := F.reads x hx
  obtain ⟨z, hz, _⟩ := WideElems.rd_val hy
  obtain ⟨ys, ho0, _⟩ := rowElem_inv hz
  rw [ho.unique (ho0.kept k (ne ho0))]
  exact hlen x hx ys ho0
theorem grown_set (w : World) (a : Addr) (u : Value) : w.grownBy (w.setCell a u) (some a.block) := by
  refine ⟨rfl, rfl, rfl, by simp [World.setCell], fun k hk hne => ?_⟩
  exact Below.heap_setCell w a u k (fun e => hne (by rw [e]))
theorem MapAt.set {w : World} {base b n : Nat} {l : List Rw} (h : MapAt w base b l n) (a : Addr) (u : Value) (hb : a.block < b) : MapAt (w.setCell a u) base b l n := by
  obtain ⟨D, h1, h2, h3⟩ := h
  exact ⟨D, groups_beside h1 (grown_set w a u) (fun i e => by cases e; exact hb), h2, h3⟩
set_option maxHeartbeats 2000000 in
theorem air_openTable (A : Option Addr) (n c : Nat) (l : List Rw) (w : World) (hl : RowsAt w A n l) (hn : n ≤ 9223372036854775807) (ht : TextsIn l) :
    Calls Tryz.prog 39 #[.slice A n c] w (OpenPost A n c l w) := by
  have HL := Lib.hid hl
  have HT := Lib.hid ht
  have HLN := Lib.hid hl.1
  have HTB : Hid (tabB l = (rowsB l && (clashV l).isNone)) := Lib.hid rfl
  have HN := Lib.hid ((New.refl w).alloc (.cells #[.slice none 0 0, .map none] 67))
  clear hl ht
  go_enter Tryz.func39, Tryz.ntmps39
  go_wp2_with fail
  refine (air_validRows A n c l _ (HL.out.keep HN.out) hn HT.out).mono ?_
  rintro e w1 ⟨rfl, h1⟩
  replace HN := Lib.hid (HN.out.trans h1)
  have hcell : (w.alloc (.cells #[.slice none 0 0, .map none] 67)).heap[w.heap.size]? = _ := heap_alloc_new w _
  have HC0 := Lib.hid (heap_keep h1 hcell)
  clear hcell h1
  cases hv : rowsB l with
  | false =>
    rw [hv] at HTB
    clear hv
    obtain ⟨r0, r1, f0, f1⟩ := two_all HC0.out
    go_wp2_with fail
    refine bodyPost_ret (v := .tuple #[.agg #[.slice none 0 0, .map none], .bool false]) (by simp [results, Tryz.results39, go_sem, r0, r1]) rfl ⟨_, _, _, _, by rw [HTB.out]; rfl, ?_, (fun h => by rw [HTB.out] at h; cases h)⟩
    exact (HN.out.setCell (Nat.le_refl _) _).setCell (Nat.le_refl _) _
  | true =>
    have h4 : n ≤ 400 := by have h := rowsB_len hv; rw [HLN.out] at h; exact h
    rw [hv, Bool.true_and] at HTB
    clear hv
    go_wp2_with fail
    refine (air_byKey A n c l w1 (HL.out.keep HN.out) h4 HT.out).mono ?_
    rintro e w2 ⟨rfl, h2, hm⟩
    have HN2 := Lib.hid (HN.out.trans h2)
    have HM := Lib.hid hm
    have HC2 := Lib.hid (heap_keep h2 HC0.out)
    have HLT : Hid (w.heap.size < w1.heap.size) := Lib.hid (Array.getElem?_eq_some_iff.1 HC0.out).1
    clear h2 hm HC0
    have HN3 := Lib.hid ((New.refl w2).alloc (.cells #[.slice A n c, .map (some w1.heap.size)] 67))
    have HC3 := Lib.hid (heap_alloc_new w2 (.cells #[.slice A n c, .map (some w1.heap.size)] 67))
    go_wp2_with fail
    refine (air_firstClash A n c _ _ l _ (HL.out.keep (HN2.out.trans HN3.out)) (HM.out.keep HN3.out) h4 HT.out).mono ?_
    rintro e w3 ⟨rfl, h3⟩
    have HN4 := Lib.hid (HN2.out.trans (HN3.out.trans h3))
    have HM4 := Lib.hid (HM.out.keep (HN3.out.trans h3))
    obtain ⟨r0, r1, f0, f1⟩ := two_all (heap_keep (HN3.out.trans h3) HC2.out)
    obtain ⟨q0, q1, _, _⟩ := two_all (heap_keep h3 HC3.out)
    clear h3
    rcases cl_isNone (clashV l) with ⟨hcl, hno⟩ | ⟨i, k, hcl, hno⟩
    · rw [hno] at HTB
      rw [hcl]
      clear hcl hno
      go_wp2_with fail
      refine bodyPost_ret (v := .tuple #[.agg #[.slice A n c, .map (some w1.heap.size)], .bool true]) (by simp [results, Tryz.results39, go_sem, r0, r1]) rfl ⟨_, _, _, _, by rw [HTB.out], ?_, fun _ => ⟨w1.heap.size + 1, w1.heap.size, rfl, rfl, ?_, Nat.le_of_lt HLT.out⟩⟩
      · exact (HN4.out.setCell (Nat.le_refl _) _).setCell (Nat.le_refl _) _
      · exact (HM4.out.set _ _ HLT.out).set _ _ HLT.out
    · rw [hno] at HTB
      rw [hcl]
      clear hcl hno
      go_wp2_with fail
      refine bodyPost_ret (v := .tuple #[.agg #[.slice A n c, .map (some w1.heap.size)], .bool false]) (by simp [results, Tryz.results39, go_sem, r0, r1]) rfl ⟨_, _, _, _, by rw [HTB.out], ?_, (fun h => by rw [HTB.out] at h; cases h)⟩
      exact (HN4.out.setCell (Nat.le_refl _) _).setCell (Nat.le_refl _) _

end Go.Proofs.YtkbdmdnahphkkaaGreatDoor

/-
  ValidTable, Overlap of the program and of the specification, for every slice of rows. Conditions: the texts are in memory.
-/
namespace Go.Proofs.YtkbdmdnahphkkaaGreatDoor
open Go.RowKit
theorem air_ValidTable (A : Option Addr) (n c : Nat) (l : List Rw) (w : World) (hl : RowsAt w A n l) (hn : n ≤ 9223372036854775807) (ht : TextsIn l) :
    Calls Tryz.prog 15 #[.slice A n c] w fun e w' => e = .returned (.bool (tabB l)) ∧ New w w' := by
  have HL := Lib.hid hl
  have HT := Lib.hid ht
  clear hl ht
  go_enter Tryz.func15, Tryz.ntmps15
  go_wp2_with fail
  refine (air_openTable A n c l w HL.out hn HT.out).mono ?_
  rintro e w1 ⟨A', n', c', m, rfl, h1, _⟩
  go_wp2_with fail
  go_ret
  exact ⟨rfl, h1.alloc _⟩
/-- What Overlap tells. -/
def overV (l : List Rw) : Int × Int × Int :=
  if rowsB l = false then (0, 0, 12) else
  match clashV l with
  | some (i, k) => ((i : Int), (k : Int), 0)
  | none => (0, 0, 3)
theorem over_bad {l : List Rw} (h : rowsB l = false) : overV l = (0, 0, 12) := by unfold overV; rw [if_pos h]
theorem over_none {l : List Rw} (h : rowsB l = true) (h2 : clashV l = none) : overV l = (0, 0, 3) := by unfold overV; rw [if_neg (by simp [h]), h2]
theorem over_some {l : List Rw} {i k : Nat} (h : rowsB l = true) (h2 : clashV l = some (i, k)) : overV l = ((i : Int), (k : Int), 0) := by unfold overV; rw [if_neg (by simp [h]), h2]
def over3 (l : List Rw) : Value := .tuple #[.int .i64 (overV l).1, .int .i64 (overV l).2.1, .int .i64 (overV l).2.2]
set_option maxHeartbeats 1000000 in
theorem air_Overlap (A : Option Addr) (n c : Nat) (l : List Rw) (w : World) (hl : RowsAt w A n l) (hn : n ≤ 9223372036854775807) (ht : TextsIn l) :
    Calls Tryz.prog 9 #[.slice A n c] w fun e w' => e = .returned (over3 l) ∧ New w w' := by
  have HL := Lib.hid hl
  have HT := Lib.hid ht
  have HLN := Lib.hid hl.1
  have HO : Hid (over3 l = .tuple #[.int .i64 (overV l).1, .int .i64 (overV l).2.1, .int .i64 (overV l).2.2]) := Lib.hid rfl
  clear hl ht
  go_enter Tryz.func9, Tryz.ntmps9
  go_wp2_with fail
  refine (air_validRows A n c l _ HL.out hn HT.out).mono ?_
  rintro e w1 ⟨rfl, h1⟩
  have HN := Lib.hid h1
  clear h1
  cases hv : rowsB l with
  | false =>
    have HG := Lib.hid (over_bad hv)
    clear hv
    go_wp2_with fail
    go_ret3
    exact ⟨by rw [HO.out, HG.out]; rfl, HN.out⟩
  | true =>
    have HV := Lib.hid hv
    have h4 : n ≤ 400 := by have h := rowsB_len hv; rw [HLN.out] at h; exact h
    clear hv
    go_wp2_with fail
    refine (air_byKey A n c l w1 (HL.out.keep HN.out) h4 HT.out).mono ?_
    rintro e w2 ⟨rfl, h2, hm⟩
    have HM := Lib.hid hm
    replace HN := Lib.hid (HN.out.trans h2)
    clear h2 hm
    go_wp2_with fail
    refine (air_firstClash A n c _ _ l w2 (HL.out.keep HN.out) HM.out h4 HT.out).mono ?_
    rintro e w3 ⟨rfl, h3⟩
    replace HN := Lib.hid (HN.out.trans h3)
    clear h3
    cases hcl : clashV l with
    | none =>
      have HG := Lib.hid (over_none HV.out hcl)
      clear hcl
      unfold clV
      go_wp2_with fail
      go_ret3
      exact ⟨by rw [HO.out, HG.out]; rfl, HN.out⟩
    | some p =>
      obtain ⟨i, k⟩ := p
      have HG := Lib.hid (over_some HV.out hcl)
      clear hcl
      unfold clV
      go_wp2_with fail
      go_ret3
      exact ⟨by rw [HO.out, HG.out]; rfl, HN.out⟩

end Go.Proofs.YtkbdmdnahphkkaaGreatDoor

/-
  rows, Overlap, ValidTable of the specification. Conditions: the texts are in memory.
-/
namespace Go.Proofs.YtkbdmdnahphkkaaGreatDoor
open Go.RowKit
set_option maxHeartbeats 1000000 in
theorem ref_rows (A : Option Addr) (n c : Nat) (l : List Rw) (w : World) (hl : RowsAt w A n l) (hn : n ≤ 9223372036854775807) (ht : TextsIn l) :
    Calls Tryz.prog 32 #[.slice A n c] w fun e w' => e = .returned (.bool (rowsB l)) ∧ New w w' := by
  have hlen := hl.1
  have HL := Lib.hid hl
  have HT := Lib.hid ht
  have HE : Hid (rowsB l = (decide (l.length ≤ 400) && l.all rowB)) := Lib.hid rfl
  clear hl ht
  by_cases h4 : n ≤ 400
  · rw [hlen, decide_eq_true h4, Bool.true_and] at HE
    have HLN := Lib.hid hlen
    clear hlen
    go_enter Tryz.func32, Tryz.ntmps32
    go_wp2_with fail
    go_loopw [3] (fun x wr => ∃ k : Nat, k ≤ n ∧ x = .int .i64 k ∧ New w wr ∧ Hid (l.all rowB = (l.drop k).all rowB)) (fun x _ => n - (intOf x).toNat)
    case atStart => exact ⟨0, by omega, rfl, New.refl w, Lib.hid rfl⟩
    case round =>
      obtain ⟨k, hk, rfl, hnew, HF⟩ := hrel
      by_cases hlt : k < n
      · obtain ⟨b, off, r, rfl, hr, hd, hrow⟩ := HL.out.row hnew hlt
        obtain ⟨c0, c1, c2, c3, c4, c5, c6⟩ := hrow
        have htx := HT.out r (List.mem_of_getElem? hr)
        have HD := Lib.hid hd
        clear hr hd
        go_wp2_with fail
        refine (ref_row r _ htx).mono ?_
        rintro e w1 ⟨rfl, h1⟩
        cases hv : rowB r with
        | true =>
          have HG : Hid (l.all rowB = (l.drop (k + 1)).all rowB) := by
            have h := HF.out
            rw [HD.out, List.all_cons, hv, Bool.true_and] at h
            exact Lib.hid h
          clear hv c0 c1 c2 c3 c4 c5 c6
          go_wp2_with fail
          exact ⟨⟨k + 1, by omega, rfl, hnew.trans h1, HG⟩, by simp [intOf]; omega⟩
        | false =>
          have HG : Hid (l.all rowB = false) := by
            have h := HF.out
            rw [HD.out, List.all_cons, hv, Bool.false_and] at h
            exact Lib.hid h
          clear hv c0 c1 c2 c3 c4 c5 c6
          go_wp2_with fail
          go_ret
          exact ⟨by rw [HE.out, HG.out]; rfl, hnew.trans h1⟩
      · have HG : Hid (l.all rowB = true) := by
          have h := HF.out
          rw [List.drop_eq_nil_of_le (by rw [HLN.out]; omega)] at h
          exact Lib.hid h
        go_wp2_with fail
        go_ret
        exact ⟨by rw [HE.out, HG.out]; rfl, hnew⟩
  · rw [hlen, decide_eq_false h4, Bool.false_and] at HE
    clear hlen
    go_enter Tryz.func32, Tryz.ntmps32
    go_wp2_with fail
    go_ret
    exact ⟨by rw [HE.out]; rfl, New.refl w⟩

end Go.Proofs.YtkbdmdnahphkkaaGreatDoor
