/-
  find, firstClash, openTable, ValidTable, Overlap of the program. Conditions: the texts are in memory.
-/
import Derived.Test.YtkbdmdnahphkkaaGreatDoorTabMap
namespace Go.Proofs.YtkbdmdnahphkkaaGreatDoor
open Go.RowKit
/-- A slice of numbers in memory. -/
def IntsAt (w : World) (v : Value) (zs : List Nat) : Prop :=
  (v = .slice none 0 0 ∧ zs = []) ∨ ∃ g cap, v = .slice (some ⟨g, 0, none⟩) zs.length cap ∧ ∀ j (h : j < zs.length), w.cell? ⟨g, j, none⟩ = some (.int .i64 (zs[j] : Nat))
theorem IntsAt.keep {w w' : World} {v : Value} {zs : List Nat} (h : IntsAt w v zs) (k : New w w') : IntsAt w' v zs := by
  rcases h with h | ⟨g, cap, e, hc⟩
  · exact .inl h
  · exact .inr ⟨g, cap, e, fun j hj => k.cellOf (hc j hj)⟩
theorem ints_of_owns {w : World} {base e : Nat} {v : Value} {ns : List Nat} (h : w.ownsInts base e .i64 v (ns.map Int.ofNat)) : IntsAt w v ns := by
  obtain ⟨⟨hl, h2⟩, _⟩ := h
  rcases h2 with ⟨rfl, h0⟩ | ⟨g, cap, cur, rfl, hb, hh, h3, h4, h5, h6⟩
  · exact .inl ⟨rfl, by simpa using h0⟩
  · refine .inr ⟨g, cap, by simp, fun j hj => ?_⟩
    have h7 : cur.toList[j]? = some (.int .i64 (ns[j] : Nat)) := by
      have h8 : (cur.toList.take ((ns.map Int.ofNat).length * 1))[j]? = some (.int .i64 (ns[j] : Nat)) := by
        rw [h6]
        simp [hj]
      rw [List.getElem?_take] at h8
      split at h8
      · exact h8
      · cases h8
    have h9 : cur[j]? = some (.int .i64 (ns[j] : Nat)) := by simpa using h7
    rw [cell_of_row _ _ j _ _ _ hh]
    exact h9
theorem MapAt.look {w : World} {base b n : Nat} {l : List Rw} (h : MapAt w base b l n) (hn : n < maxLen) (t : Bytes) (wh : Bool) (ht : t.length ≤ maxLen) :
    ∃ v, (Instr.lookup 64 (.map (some b)) (keyV t wh) false).run Tryz.prog w = .ok v w ∧ IntsAt w v (idxN l t wh n) := by
  obtain ⟨D, h1, h2, h3⟩ := h
  obtain ⟨v, zs, hrun, hat, hoi, _, _⟩ := h1.at key_law Tryz.underlying64 (zero_ints w) hn (key_reads t wh ht)
  rw [h3 t wh ht] at hat
  obtain rfl := gd_row hoi hat
  exact ⟨v, hrun, ints_of_owns hoi⟩
def optI : Option Nat → Int
  | some i => i
  | none => 0
theorem find_cons_t {p : Nat → Bool} {x : Nat} {l : List Nat} (h : p x = true) : (x :: l).find? p = some x := by simp [h]
theorem find_cons_f {p : Nat → Bool} {x : Nat} {l : List Nat} (h : p x = false) : (x :: l).find? p = l.find? p := by simp [h]
set_option maxHeartbeats 2000000 in
theorem air_find (A : Option Addr) (n c base b : Nat) (l : List Rw) (t : Bytes) (wh : Bool) (d : Int) (w : World) (hl : RowsAt w A n l) (hm : MapAt w base b l n) (hn : n ≤ 400) (ht : t.length ≤ maxLen) :
    Calls Tryz.prog 64 #[.agg #[.slice A n c, .map (some b)], keyV t wh, .int .i64 d] w fun e w' => e = .returned (.tuple #[.int .i64 (optI (hitN l t wh d n)), .bool (hitN l t wh d n).isSome]) ∧ New w w' := by
  have HL := Lib.hid hl
  have HN := Lib.hid (((New.refl w).alloc (.cells #[.slice A n c, .map (some b)] 67)).alloc (.cells #[.string (B t), .bool wh] 112))
  obtain ⟨v, hrun, hv⟩ := (hm.keep HN.out).look (by unfold maxLen; omega) t wh ht
  unfold keyV at *
  have HE := Lib.hid (idx_find l t wh n (fun i => forceB d (rowN l i)))
  clear hl hm
  go_enter Tryz.func64, Tryz.ntmps64
  rcases hv with ⟨rfl, h0⟩ | ⟨g, cap, rfl, hc⟩
  · have HZ : Hid (hitN l t wh d n = none) := by
      have h := HE.out
      rw [h0] at h
      exact Lib.hid h.symm
    clear h0
    go_wp2_with fail
    go_loopw [15] (fun x wr => x = .int .i64 0 ∧ New w wr) (fun _ _ => 0)
    case atStart => exact ⟨rfl, HN.out⟩
    case round =>
      obtain ⟨rfl, hnew⟩ := hrel
      go_wp2_with fail
      go_ret2
      exact ⟨by rw [HZ.out]; rfl, hnew⟩
  · have hcr : ((w.alloc (.cells #[.slice A n c, .map (some b)] 67)).alloc (.cells #[.string (B t), .bool wh] 112)).cell? ⟨w.heap.size, 0, none⟩ = some (.slice A n c) := cell_alloc (by rw [cell_of_row _ _ 0 _ _ _ (heap_alloc_new w _)]; rfl) _
    have HIL := Lib.hid (fun x (hx : x ∈ idxN l t wh n) => idx_lt hx)
    have hil := idx_len l t wh n
    have HC := Lib.hid hc
    clear hc
    change Hid (List.find? _ (idxN l t wh n) = hitN l t wh d n) at HE
    generalize idxN l t wh n = ids at *
    go_wp2_with fail
    generalize (w.alloc (.cells #[.slice A n c, .map (some b)] 67)).alloc (.cells #[.string (B t), .bool wh] 112) = W at *
    clear hrun
    have HCR := Lib.hid hcr
    clear hcr
    go_loopw [15] (fun x wr => ∃ k : Nat, k ≤ ids.length ∧ x = .int .i64 k ∧ New W wr ∧ Hid (hitN l t wh d n = (ids.drop k).find? (fun i => forceB d (rowN l i)))) (fun x _ => ids.length - (intOf x).toNat)
    case atStart => exact ⟨0, by omega, rfl, New.refl W, Lib.hid HE.out.symm⟩
    case round =>
      obtain ⟨k, hk, rfl, hnew, HF⟩ := hrel
      by_cases hlt : k < ids.length
      · have hck := hnew.cellOf (HC.out k hlt)
        have hx := HIL.out _ (List.getElem_mem hlt)
        have HD := Lib.hid (List.drop_eq_getElem_cons hlt)
        generalize ids[k] = x at *
        obtain ⟨bb, off, r, rfl, hr, _, hrow⟩ := HL.out.row (HN.out.trans hnew) hx
        obtain ⟨c0, c1, c2, c3, c4, c5, c6⟩ := hrow
        have hcr := hnew.cellOf HCR.out
        have hrn : rowN l x = r := by simp [rowN, List.getD, hr]
        have HRN := Lib.hid hrn
        clear hr hrn
        have hx1 : (0 : Int) ≤ (x : Int) := by omega
        have hx2 : (x : Int) < (n : Int) := by omega
        go_wp2_with fail
        refine (air_inForce r d wr).mono ?_
        rintro e w' ⟨rfl, h1⟩
        cases hf : forceB d r with
        | true =>
          have HH : Hid (hitN l t wh d n = some x) := by
            have h := HF.out
            rw [HD.out, find_cons_t (by rw [HRN.out]; exact hf)] at h
            exact Lib.hid h
          clear hf c0 c1 c2 c3 c4 c5 c6 hcr hck
          go_wp2_with fail
          go_ret2
          exact ⟨by rw [HH.out]; rfl, HN.out.trans (hnew.trans h1)⟩
        | false =>
          have HH : Hid (hitN l t wh d n = (ids.drop (k + 1)).find? (fun i => forceB d (rowN l i))) := by
            have h := HF.out
            rw [HD.out, find_cons_f (by rw [HRN.out]; exact hf)] at h
            exact Lib.hid h
          clear hf c0 c1 c2 c3 c4 c5 c6 hcr hck
          go_wp2_with fail
          exact ⟨⟨k + 1, by omega, rfl, hnew.trans h1, HH⟩, by simp [intOf]; omega⟩
      · have HH : Hid (hitN l t wh d n = none) := by
          have h := HF.out
          rw [List.drop_eq_nil_of_le (by omega)] at h
          exact Lib.hid h
        go_wp2_with fail
        go_ret2
        exact ⟨by rw [HH.out]; rfl, HN.out.trans hnew⟩

end Go.Proofs.YtkbdmdnahphkkaaGreatDoor
