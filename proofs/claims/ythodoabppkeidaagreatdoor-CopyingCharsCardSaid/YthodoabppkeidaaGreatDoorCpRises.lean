/-
  Rise of the program: the rising list of the fewest changes. Condition: the numbers lie in memory.
-/
import Derived.Test.YthodoabppkeidaaGreatDoorCpRise
namespace Go.Proofs.YthodoabppkeidaaGreatDoor
open Go Go.RowKit
theorem rowG_zero (n : Nat) : List.replicate n (Value.int .i64 0) = rowG n (fun _ => 0) := by
  apply List.ext_getElem?
  intro j
  by_cases hj : j < n
  · rw [rowG_at _ hj, List.getElem?_replicate, if_pos hj]
  · rw [List.getElem?_eq_none (by simpa using hj), List.getElem?_eq_none (by rw [rowG_len]; omega)]
theorem putF_set {l : List Int} {j : Nat} (hl : l.length ≤ 1000) (hj : j < (keptI l).length) : (keptI l)[j] < l.length ∧ (rowG l.length (putF l j)).set (keptI l)[j] (.int .i64 (l.getD (keptI l)[j] 0)) = rowG l.length (putF l (j + 1)) := by
  have hm : (keptI l)[j] ∈ keptI l := List.getElem_mem hj
  have hlt := (kept_mem hl ((keptI_mem hl).1 hm)).1
  have htk : (keptI l).take (j + 1) = (keptI l).take j ++ [(keptI l)[j]] := List.take_succ_eq_append_getElem hj
  refine ⟨hlt, rowG_set ?_ fun x hx hne => ?_⟩
  · rw [putF, if_pos (by rw [htk]; exact List.mem_append.2 (.inr (List.mem_singleton.2 rfl)))]
  · unfold putF
    by_cases h : x ∈ (keptI l).take j
    · rw [if_pos h, if_pos (by rw [htk]; exact List.mem_append.2 (.inl h))]
    · rw [if_neg h, if_neg (by
        rw [htk, List.mem_append, List.mem_singleton]
        rintro (h2 | h2)
        · exact h h2
        · exact hne h2)]
theorem gapF_set {l : List Int} {j : Nat} (h0 : stayA l j = 0) : (rowG l.length (gapF l j)).set j (.int .i64 (rzA l j + 1)) = rowG l.length (gapF l (j + 1)) :=
  rowG_set (by rw [gapF, if_pos (by omega), rzA, if_pos h0]) fun x hx hne => by
    unfold gapF
    by_cases h : x < j
    · rw [if_pos h, if_pos (by omega)]
    · rw [if_neg h, if_neg (by omega)]
theorem gapF_keep {l : List Int} {j : Nat} (h0 : ¬ stayA l j = 0) : rowG l.length (gapF l j) = rowG l.length (gapF l (j + 1)) :=
  rowG_congr fun x hx => by
    unfold gapF
    by_cases h : x < j
    · rw [if_pos h, if_pos (by omega)]
    · by_cases e : x = j
      · subst e
        rw [if_neg h, if_pos (by omega), rzA, if_neg h0]
      · rw [if_neg h, if_neg (by omega)]
theorem gapF_done (l : List Int) : rowG l.length (gapF l l.length) = intsV (riseL l) := by
  rw [rowG, intsV, riseL, List.map_map]
  apply List.map_congr_left
  intro x hx
  rw [gapF, if_pos (List.mem_range.1 hx)]
  rfl
theorem ints_low {w : World} {A : Option Addr} {n c : Nat} {l : List Int} (h : IntsAt w (.slice A n c) l) (h0 : 0 < l.length) : ∃ b off, A = some ⟨b, off, none⟩ ∧ b < w.heap.size ∧ ∀ i (hi : i < l.length), w.cell? ⟨b, off + i, none⟩ = some (.int .i64 l[i]) := by
  obtain ⟨b, off, h1, h2, h3⟩ := ints_cell h h0
  refine ⟨b, off, h1, ?_, h3⟩
  have h4 := h3 0 h0
  exact World.block_lt_of_cell? _ _ h4
theorem keptI_le {l : List Int} (hl : l.length ≤ 1000) : (keptI l).length ≤ l.length := by
  rw [keptI, List.length_map]
  have h := sorted_le (l := kept l) (r := List.range' 1 l.length) ((kept_is hl).pair.imp fun h => h.1) (List.pairwise_lt_range' ..) fun x hx => by
    obtain ⟨h1, h2, _⟩ := (kept_is hl).mem x hx
    rw [List.mem_range'_1]
    omega
  simpa using h
/-- The rising list, or none with an error. -/
def riseC (l : List Int) : List Int := if serE l = 0 then riseL l else []
set_option maxRecDepth 100000 in
set_option maxHeartbeats 4000000 in
theorem cp_Rise (l : List Int) (v : Value) (w : World) (hv : IntsAt w v l) (hl : l.length ≤ 1000000) : Calls Tryz.prog 49 #[v] w fun e w' =>
    ∃ v', e = .returned (.tuple #[v', .int .i64 (serE l)]) ∧ (w'.ownsRow w.heap.size 3 1 v' (riseC l).length (intsV (riseC l)) ∧ New w w') := by
  have HS := Lib.hid (cp_checkSerials l v w hv hl)
  have HV := Lib.hid hv
  by_cases he : serE l = 0
  · obtain ⟨h1, h2⟩ := serE_ok he
    have HC : Hid (∀ w', New w w' → Calls Tryz.prog 93 #[v] w' fun e w'' => ∃ v', e = .returned v' ∧ (w''.ownsRow w'.heap.size 3 1 v' (keptI l).length (natsV (keptI l)) ∧ New w' w'')) :=
      Lib.hid (fun w' hn => cp_chain l v w' (hv.keep hn) h1 h2)
    have e1 : riseC l = riseL l := if_pos he
    rw [e1]
    rw [he] at HS ⊢
    obtain ⟨A, c, rfl, b1, b2⟩ := hv.form
    clear hv he e1 h2
    have hmk := make_ints l.length (by omega)
    have hkl := keptI_le (l := l) (by omega)
    go_enter Tryz.func49, Tryz.ntmps49
    go_wp2_with fail
    refine HS.out.mono ?_
    rintro e w' ⟨rfl, rfl⟩
    go_wp2_with fail
    have k1 := (New.refl w).alloc (.cells (Array.replicate l.length (Value.int .i64 0)) 3)
    have r1 := RowIs.zeros w 3 l.length (.int .i64 0)
    rw [rowG_zero] at r1
    have HR1 := Lib.hid r1
    have hs1 : (w.alloc (.cells (Array.replicate l.length (Value.int .i64 0)) 3)).heap.size = w.heap.size + 1 := by simp
    have HK1 := Lib.hid k1
    clear r1 k1
    generalize w.alloc (.cells (Array.replicate l.length (Value.int .i64 0)) 3) = w1 at *
    refine (HC.out w1 HK1.out).mono ?_
    rintro e w2 ⟨kv, rfl, ho, hn⟩
    obtain ⟨KA, KC, rfl⟩ := owns_form ho
    have HO := Lib.hid ho
    have HN2 := Lib.hid hn
    clear ho hn
    have hkn : (natsV (keptI l)).length = (keptI l).length := natsV_len _
    go_wp2_with fail
    go_loopw [22] (fun s22 wr => ∃ j : Nat, j ≤ (keptI l).length ∧ s22 = .int .i64 j ∧ RowIs wr w.heap.size 3 (rowG l.length (putF l j)) ∧ Upd w.heap.size w2 wr) (fun i _ => (keptI l).length - (intOf i).toNat)
    case atStart => exact ⟨0, by omega, rfl, by rw [rowG_congr (fun x _ => putF_zero l x)]; exact HR1.out.keep HN2.out, Upd.refl _ _⟩
    case round =>
      obtain ⟨j, hj, rfl, hrow, hu⟩ := hrel
      have HRW := Lib.hid hrow
      have HU := Lib.hid hu
      clear hrow hu
      by_cases hlt : j < (keptI l).length
      · obtain ⟨hx, hset⟩ := putF_set (by omega) hlt
        have HSET := Lib.hid hset
        obtain ⟨lb, lo, rfl, llt, lc⟩ := ints_low HV.out (by omega)
        have hl1 : wr.cell? ⟨lb, lo + (keptI l)[j], none⟩ = some (.int .i64 (l.getD (keptI l)[j] 0)) := by
          rw [List.getD_eq_getElem?_getD, List.getElem?_eq_getElem hx]
          refine (World.cell?_of_block (HU.out.block lb (Nat.lt_of_lt_of_le llt (HK1.out.trans HN2.out).size) (by omega))).trans ?_
          exact ((HK1.out.trans HN2.out).cell (p := ⟨lb, lo + (keptI l)[j], none⟩) llt).trans (lc _ hx)
        have hsl := owns_sl (cs := natsV (keptI l)) (by rw [hkn]; exact HO.out)
        rw [SlAt, hkn] at hsl
        obtain ⟨KA', KC', hke, -, -, hkc⟩ := hsl
        obtain ⟨kb, ko, rfl, kl, kc⟩ := hkc (by omega)
        simp only [Value.slice.injEq, true_and] at hke
        obtain ⟨rfl, rfl⟩ := hke
        have hkb := (HO.out.lt kb rfl).1
        have hk2 : wr.cell? ⟨kb, ko + j, none⟩ = some (.int .i64 ((keptI l)[j] : Nat)) := by
          refine (World.cell?_of_block (HU.out.block kb kl (by omega))).trans (kc j _ ?_)
          rw [natsV, List.getElem?_map, List.getElem?_eq_getElem hlt]
          rfl
        have hf := HRW.out.free (keptI l)[j]
        have hc0 := HRW.out.cell (rowG_at (putF l j) hx)
        have HRN := Lib.hid (HRW.out.put (keptI l)[j] (.int .i64 (l.getD (keptI l)[j] 0)))
        rw [HSET.out] at HRN
        have HUN := Lib.hid (HU.out.set (keptI l)[j] (.int .i64 (l.getD (keptI l)[j] 0)))
        clear lc kc hkc HSET
        generalize l.getD (keptI l)[j] 0 = z at *
        generalize (keptI l)[j] = x at *
        have i1 : (x : Int) < (l.length : Int) := by omega
        have i2 : (j : Int) < ((keptI l).length : Int) := by omega
        go_wp2_with fail
        refine ⟨⟨j + 1, by omega, by go_num, HRN.out, HUN.out⟩, by simp [intOf]; omega⟩
      · obtain rfl : j = (keptI l).length := by omega
        have HR2 : Hid (RowIs wr w.heap.size 3 (rowG l.length (gapF l 0))) := Lib.hid (by
          rw [rowG_congr (f := gapF l 0) (g := putF l (keptI l).length) (fun x _ => by rw [gapF, if_neg (Nat.not_lt_zero x), putF_all (Nat.le_trans h1 (by decide))])]
          exact HRW.out)
        have HWN : Hid (New w wr) := Lib.hid (Upd.new (HK1.out.trans HN2.out) (Nat.le_refl _) HU.out)
        clear HRW HU
        go_wp2_with fail
        go_loopw [36, 8] (fun s36 s8 wx => ∃ j : Nat, j ≤ l.length ∧ s36 = .int .i64 j ∧ s8 = .int .i64 (rzA l j) ∧ RowIs wx w.heap.size 3 (rowG l.length (gapF l j)) ∧ New w wx) (fun i _ _ => l.length - (intOf i).toNat)
        case atStart => exact ⟨0, by omega, rfl, rfl, HR2.out, HWN.out⟩
        case round =>
          obtain ⟨j, hj2, rfl, rfl, hrow, hn⟩ := hrel
          have HRW := Lib.hid hrow
          have HNX := Lib.hid hn
          clear hrow hn
          by_cases hlt : j < l.length
          · have hc0 := HRW.out.cell (rowG_at (gapF l j) hlt)
            have hf := HRW.out.free j
            rw [gapF, if_neg (Nat.lt_irrefl j)] at hc0
            have hz := rz_range (l := l) (by omega) (j + 1) (by omega)
            have hy := rz_range (l := l) (by omega) j (by omega)
            have i1 : (j : Int) < (l.length : Int) := by omega
            by_cases h0 : stayA l j = 0
            · have e2 : rzA l (j + 1) = rzA l j + 1 := by rw [rzA, if_pos h0]
              have hp := HRW.out.put j (.int .i64 (rzA l j + 1))
              rw [gapF_set h0] at hp
              have HRN := Lib.hid hp
              have c1 := hp.cell (rowG_at (gapF l (j + 1)) hlt)
              rw [gapF, if_pos (by omega), e2] at c1
              have HE2 := Lib.hid e2
              rw [h0] at hc0
              have i2 : IntKind.i64.wrap (rzA l j + 1) = rzA l j + 1 := IntWalk.i64_in _ (by omega)
              clear e2 h0 hp hz
              generalize rzA l j = y at *
              go_wp2_with fail
              refine ⟨⟨j + 1, by omega, by go_num, by rw [HE2.out], HRN.out, HNX.out.setCell (Nat.le_refl _) _⟩, by simp [intOf]; omega⟩
            · have e2 : rzA l (j + 1) = stayA l j := by rw [rzA, if_neg h0]
              have hp := HRW.out
              rw [gapF_keep h0] at hp
              have HRN := Lib.hid hp
              have HE2 := Lib.hid e2
              have h0' : ¬ (stayA l j = 0) := h0
              clear e2 h0 hp hz hf
              generalize stayA l j = z at *
              go_wp2_with fail
              refine ⟨⟨j + 1, by omega, by go_num, by rw [HE2.out], HRN.out, HNX.out⟩, by simp [intOf]; omega⟩
          · obtain rfl : j = l.length := by omega
            have hr2 := HRW.out
            rw [gapF_done] at hr2
            have hlen : (intsV (riseL l)).length = l.length := by rw [intsV_len, riseL_len]
            have hown := hr2.owns (Nat.le_refl _) (by rw [hlen]; omega)
            rw [hlen] at hown
            have HOW := Lib.hid hown
            have hle := riseL_len l
            clear hr2 hown
            go_wp2_with fail
            go_ret2
            refine ⟨_, rfl, ?_, HNX.out⟩
            rw [hle]
            exact HOW.out
  · have e1 : riseC l = [] := if_neg he
    rw [e1]
    have hE : (serE l != 0) = true := by rw [bne_iff_ne]; exact he
    obtain ⟨A, c, rfl, b1, b2⟩ := hv.form
    clear hv HV
    generalize serE l = E at *
    go_enter Tryz.func49, Tryz.ntmps49
    go_wp2_with fail
    refine HS.out.mono ?_
    rintro e w' ⟨rfl, rfl⟩
    go_wp2_with fail
    go_ret2
    exact ⟨_, rfl, World.ownsRow_nil _ _ _ _, New.refl _⟩
end Go.Proofs.YthodoabppkeidaaGreatDoor
