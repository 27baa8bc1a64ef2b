/-
  The knots of the program: tighten. Condition: the knots lie in memory.
-/
import Derived.Test.YtlhdhfhfdkldjaaDoorCkName
namespace Go.Proofs.YtlhdhfhfdkldjaaDoor
open Go Go.RowKit Go.Shelf
attribute [local go_sem] Oper.semAt_some
/-- The most by which each line may be later than each other one, in memory. -/
structure MostA (W : World) (base g mb m mc : Nat) (win : Int) (gs cs : Nat → Nat) (M : Nat → Nat → Int) : Prop where
  win : W.cell? ⟨g, 0, none⟩ = some (.int .i64 win)
  most : W.cell? ⟨g, 3, none⟩ = some (.slice (some ⟨mb, 0, none⟩) m mc)
  out : ∀ i, i < m → W.cell? ⟨mb, i, none⟩ = some (.slice (some ⟨gs i, 0, none⟩) m (cs i))
  row : ∀ i j, i < m → j < m → W.cell? ⟨gs i, j, none⟩ = some (.int .i64 (M i j)) ∧ W.frozen? ⟨gs i, j, none⟩ = false
  inj : ∀ i i', i < m → i' < m → gs i = gs i' → i = i'
  far : ∀ i, i < m → gs i ≠ mb ∧ gs i ≠ g ∧ base ≤ gs i
def upd2 (M : Nat → Nat → Int) (i j : Nat) (x : Int) : Nat → Nat → Int := fun i' j' => if i' = i ∧ j' = j then x else M i' j'
theorem MostA.set {W : World} {base g mb m mc : Nat} {win : Int} {gs cs : Nat → Nat} {M : Nat → Nat → Int} (h : MostA W base g mb m mc win gs cs M) {i j : Nat} (hi : i < m) (_ : j < m) (x : Int) : MostA (W.setCell ⟨gs i, j, none⟩ (.int .i64 x)) base g mb m mc win gs cs (upd2 M i j x) := by
  have hf := h.far i hi
  have other : ∀ p o v, p ≠ gs i ∨ o ≠ j → W.cell? ⟨p, o, none⟩ = some v → (W.setCell ⟨gs i, j, none⟩ (.int .i64 x)).cell? ⟨p, o, none⟩ = some v := fun p o v hne hv => by
    have hne2 : (⟨gs i, j, none⟩ : Addr) ≠ ⟨p, o, none⟩ := fun e => by
      simp only [Addr.mk.injEq] at e
      rcases hne with h1 | h1
      · exact h1 e.1.symm
      · exact h1 e.2.1.symm
    rw [World.cell?_setCell_other (h := hne2)]
    exact hv
  refine ⟨other _ _ _ (.inl (Ne.symm hf.2.1)) h.win, other _ _ _ (.inl (Ne.symm hf.2.1)) h.most, fun k hk => other _ _ _ (.inl (Ne.symm hf.1)) (h.out k hk), fun k l hk hl => ?_, h.inj, h.far⟩
  obtain ⟨h1, h2⟩ := h.row k l hk hl
  refine ⟨?_, by rw [World.frozen?_setCell]; exact h2⟩
  by_cases e : k = i ∧ l = j
  · obtain ⟨rfl, rfl⟩ := e
    have e2 : upd2 M k l x k l = x := by simp [upd2]
    rw [e2]
    exact World.cell?_setCell_same _ _ _ h1
  · have e2 : upd2 M i j x k l = M k l := by unfold upd2; rw [if_neg e]
    rw [e2]
    refine other _ _ _ ?_ h1
    by_cases e3 : k = i
    · exact .inr (fun e4 => e ⟨e3, e4⟩)
    · exact .inl (fun e4 => e3 (h.inj k i hk hi e4))
theorem MostA.keep {W W' : World} {base g mb m mc : Nat} {win : Int} {gs cs : Nat → Nat} {M : Nat → Nat → Int} (h : MostA W base g mb m mc win gs cs M) (k : New W W') : MostA W' base g mb m mc win gs cs M :=
  ⟨k.cellOf h.win, k.cellOf h.most, fun i hi => k.cellOf (h.out i hi), fun i j hi hj => ⟨k.cellOf (h.row i j hi hj).1, by
    have h1 := h.row i j hi hj
    have hlt : gs i < W.heap.size := lt_of_cell h1.1
    rw [← h1.2]
    unfold World.frozen?
    rw [k.out.block _ hlt]⟩, h.inj, h.far⟩
theorem MostA.congr {W : World} {base g mb m mc : Nat} {win : Int} {gs cs : Nat → Nat} {M N : Nat → Nat → Int} (h : MostA W base g mb m mc win gs cs M) (e : ∀ i j, i < m → j < m → M i j = N i j) : MostA W base g mb m mc win gs cs N :=
  ⟨h.win, h.most, h.out, fun i j hi hj => by rw [← e i j hi hj]; exact h.row i j hi hj, h.inj, h.far⟩
/-- The rows while the one of i is gone through, j numbers written. -/
def tgt (win : Int) (a b : Nat) (M : Nat → Nat → Int) (i j : Nat) : Nat → Nat → Int := fun p q => if p < i ∨ p = i ∧ q < j then min (M p q) (M p a + win + M b q) else M p q
theorem tgt_step (win : Int) (a b : Nat) (M : Nat → Nat → Int) (i j : Nat) : upd2 (tgt win a b M i j) i j (min (M i j) (M i a + win + M b j)) = tgt win a b M i (j + 1) := by
  funext p q
  unfold upd2 tgt
  by_cases h : p = i ∧ q = j
  · obtain ⟨rfl, rfl⟩ := h
    rw [if_pos ⟨rfl, rfl⟩, if_pos (.inr ⟨rfl, by omega⟩)]
  · rw [if_neg h]
    by_cases h2 : p < i ∨ p = i ∧ q < j
    · rw [if_pos h2, if_pos (h2.imp id (fun h => ⟨h.1, by omega⟩))]
    · rw [if_neg h2, if_neg (by omega)]
theorem tgt_b {win : Int} {a b : Nat} {M : Nat → Nat → Int} (h : -win ≤ M b a) (i j q : Nat) : tgt win a b M i j b q = M b q := by
  unfold tgt
  split
  · omega
  · rfl
theorem tgt_at (win : Int) (a b : Nat) (M : Nat → Nat → Int) (i j q : Nat) (h : j ≤ q) : tgt win a b M i j i q = M i q := by
  unfold tgt
  rw [if_neg (by omega)]
theorem tgt_row (win : Int) (a b m : Nat) (M : Nat → Nat → Int) (i : Nat) : ∀ p q, p < m → q < m → tgt win a b M i m p q = tgt win a b M (i + 1) 0 p q := fun p q _ hq => by
  unfold tgt
  by_cases h : p < i ∨ p = i ∧ q < m
  · rw [if_pos h, if_pos (by omega)]
  · rw [if_neg h, if_neg (by omega)]
/-- Only the rows have been written. -/
def KeepGs (gs : Nat → Nat) (m : Nat) (W W' : World) : Prop := Below 0 W W' ∧ ∀ k, k < W.heap.size → (∀ i, i < m → k ≠ gs i) → W'.heap[k]? = W.heap[k]?
theorem KeepGs.refl (gs : Nat → Nat) (m : Nat) (W : World) : KeepGs gs m W W := ⟨Below.refl _ _, fun _ _ _ => rfl⟩
theorem KeepGs.new {gs : Nat → Nat} {m : Nat} {A B C : World} (h : KeepGs gs m A B) (k : New B C) : KeepGs gs m A C :=
  ⟨h.1.trans (Below.mono k (Nat.zero_le _)), fun i hi hne => (k.out.block i (Nat.lt_of_lt_of_le hi h.1.size)).trans (h.2 i hi hne)⟩
theorem KeepGs.set {gs : Nat → Nat} {m : Nat} {A B : World} (h : KeepGs gs m A B) {i : Nat} (hi : i < m) (j : Nat) (v : Value) : KeepGs gs m A (B.setCell ⟨gs i, j, none⟩ v) :=
  ⟨h.1.trans ((Below.refl _ _).setCell (Nat.zero_le _) _), fun k hk hne => (Below.heap_setCell B ⟨gs i, j, none⟩ v k (fun e => hne i hi e)).trans (h.2 k hk hne)⟩
set_option maxRecDepth 100000 in
set_option maxHeartbeats 8000000 in
theorem ck_tighten (W : World) (base g mb m mc : Nat) (win : Int) (gs cs : Nat → Nat) (M : Nat → Nat → Int) (h : MostA W base g mb m mc win gs cs M) (hm : m ≤ 100000) (a b : Nat) (ha : a < m) (hb : b < m) (hba : -win ≤ M b a) (hw : 0 ≤ win ∧ win ≤ 1000000) (hbd : ∀ i j, i < m → j < m → -1000000000000000 ≤ M i j ∧ M i j ≤ 1000000000000000) :
    Calls Tryd.prog 125 #[.pointer (some ⟨g, 0, none⟩), .int .i64 a, .int .i64 b] W fun e w' => e = .returned (.tuple #[]) ∧ KeepGs gs m W w' ∧ MostA w' base g mb m mc win gs cs (if M a b ≤ win then M else tgt win a b M m 0) := by
  have z0 := h.win
  have z1 := h.most
  have z2 := h.out a ha
  have z3 := (h.row a b ha hb).1
  have i1 : (a : Int) < (m : Int) := by omega
  have i2 : (b : Int) < (m : Int) := by omega
  have H := Lib.hid h
  have HBD := Lib.hid hbd
  have hbb := hbd b a hb ha
  clear h
  by_cases hle : M a b ≤ win
  · rw [if_pos hle]
    go_enter Tryd.func125, Tryd.ntmps125
    go_wp2_with fail
    go_quiet (fail)
    go_wp2_with fail
    first | go_end0 | refine bodyPost_ret (results_none rfl _ _ _) rfl ?_
    have hk := (New.refl W).drewN nq
    exact ⟨rfl, (KeepGs.refl gs m W).new hk, H.out.keep hk⟩
  · rw [if_neg hle]
    go_enter Tryd.func125, Tryd.ntmps125
    go_wp2_with fail
    go_quiet (fail)
    have hk := (New.refl W).drewN nq
    have H2 := Lib.hid (H.out.keep hk)
    have HK2 := Lib.hid ((KeepGs.refl gs m W).new hk)
    clear H z0 z1 z2 z3 hk
    generalize W.drewN nq = W2 at *
    have z1 := H2.out.most
    have z2 := H2.out.out b hb
    go_wp2_with fail
    clear z1 z2
    go_loopw [39] (fun i wr => ∃ k : Nat, k ≤ m ∧ i = .int .i64 k ∧ KeepGs gs m W wr ∧ MostA wr base g mb m mc win gs cs (tgt win a b M k 0)) (fun i _ => m - (intOf i).toNat)
    case atStart => exact ⟨0, Nat.zero_le _, rfl, HK2.out, H2.out.congr (fun i j _ _ => by simp [tgt])⟩
    case round =>
      obtain ⟨k, hk, rfl, hkg, hma⟩ := hrel
      clear H2 HK2
      have HKG := Lib.hid hkg
      have HMA := Lib.hid hma
      by_cases hlt : k < m
      · have ik : (k : Int) < (m : Int) := by omega
        have y0 := hma.out k hlt
        have y1 := hma.row k a hlt ha
        rw [tgt_at _ _ _ _ _ _ _ (Nat.zero_le _)] at y1
        have y2 := y1.1
        have y3 := hma.win
        have hka := HBD.out k a hlt ha
        have hwr : IntKind.i64.wrap (M k a + win) = M k a + win := IntWalk.i64_in _ (by omega)
        clear hkg hma y1
        go_wp2_with fail
        go_quiet (fail)
        have hq := (New.refl wr).drewN nq
        have HM2 := Lib.hid (HMA.out.keep hq)
        have HG2 := Lib.hid (HKG.out.new hq)
        clear HKG HMA hq y0 y2 y3
        generalize wr.drewN nq = W3 at *
        go_wp2_with fail
        go_loopw [54] (fun i wr => ∃ j : Nat, j ≤ m ∧ i = .int .i64 j ∧ KeepGs gs m W wr ∧ MostA wr base g mb m mc win gs cs (tgt win a b M k j)) (fun i _ => m - (intOf i).toNat)
        case atStart => exact ⟨0, Nat.zero_le _, rfl, HG2.out, HM2.out⟩
        case round =>
          obtain ⟨j, hj, rfl, hkg, hma⟩ := hrel
          clear HM2 HG2
          have HKG := Lib.hid hkg
          have HMA := Lib.hid hma
          by_cases hjt : j < m
          · have ij : (j : Int) < (m : Int) := by omega
            have y1 := hma.row b j hb hjt
            rw [tgt_b hba] at y1
            have y2 := y1.1
            have x1 := hma.row k j hlt hjt
            rw [tgt_at _ _ _ _ _ _ _ (Nat.le_refl _)] at x1
            have x2 := x1.1
            have x3 := x1.2
            have hbj := HBD.out b j hb hjt
            have hkj := HBD.out k j hlt hjt
            have hwr2 : IntKind.i64.wrap (M k a + win + M b j) = M k a + win + M b j := IntWalk.i64_in _ (by omega)
            clear hkg hma y1 x1
            go_wp2_with fail
            have em : (if M k a + win + M b j < M k j then M k a + win + M b j else M k j) = min (M k j) (M k a + win + M b j) := by split <;> omega
            rw [em]
            exact ⟨⟨j + 1, by omega, by simp, HKG.out.set hlt j _, by rw [← tgt_step]; exact HMA.out.set hlt hjt _⟩, by simp [intOf]; omega⟩
          · obtain rfl : j = m := by omega
            go_wp2_with fail
            go_roundw
            case rel => exact ⟨k + 1, by omega, rfl, HKG.out, HMA.out.congr (tgt_row win a b j M k)⟩
            case measure => simp [intOf]; omega
      · obtain rfl : k = m := by omega
        go_wp2_with fail
        first | go_end0 | refine bodyPost_ret (results_none rfl _ _ _) rfl ?_
        exact ⟨rfl, hkg, hma⟩
end Go.Proofs.YtlhdhfhfdkldjaaDoor
