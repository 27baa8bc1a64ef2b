/-
  The knots of the program: add. Condition: the knots lie in memory.
-/
import Derived.Test.YtlhdhfhfdkldjaaDoorCkTight
namespace Go.Proofs.YtlhdhfhfdkldjaaDoor
open Go Go.RowKit Go.Shelf
attribute [local go_sem] Oper.semAt_some
/-- The numbers behind a tightening, and behind a tie. -/
def tM (m : Nat) (win : Int) (a b : Nat) (M : Nat → Nat → Int) : Nat → Nat → Int := if M a b ≤ win then M else tgt win a b M m 0
def okT (win : Int) (a b : Nat) (M : Nat → Nat → Int) : Bool := decide (-win ≤ M a b) && decide (-win ≤ M b a)
def aM (m : Nat) (win : Int) (a b : Nat) (M : Nat → Nat → Int) : Nat → Nat → Int := if okT win a b M = true then tM m win b a (tM m win a b M) else M
theorem tgt_all (m : Nat) (win : Int) (a b : Nat) (M : Nat → Nat → Int) {i j : Nat} (hi : i < m) : tgt win a b M m 0 i j = min (M i j) (M i a + win + M b j) := by
  unfold tgt; rw [if_pos (.inl hi)]
theorem KeepGs.trans {gs : Nat → Nat} {m : Nat} {A B C : World} (h : KeepGs gs m A B) (k : KeepGs gs m B C) : KeepGs gs m A C :=
  ⟨h.1.trans k.1, fun i hi hne => (k.2 i (Nat.lt_of_lt_of_le hi h.1.size) hne).trans (h.2 i hi hne)⟩
set_option maxRecDepth 100000 in
set_option maxHeartbeats 8000000 in
theorem ck_add (W : World) (base g mb m mc ib n : Nat) (win : Int) (gs cs : Nat → Nat) (M : Nat → Nat → Int) (h : MostA W base g mb m mc win gs cs M) (l : List Rf) (hx : W.cell? ⟨g, 2, none⟩ = some (.map (some ib))) (hI : IdxM W ib n l) (hl : l.length = m) (hm : m ≤ 100000) (p q : Rf) (hps : Sml p) (hqs : Sml q) (hp : p ∈ l) (hq : q ∈ l) (a b : Nat) (hpa : l.idxOf p = a) (hqb : l.idxOf q = b)
    (hw : 0 ≤ win ∧ win ≤ 1000000) (hbd : ∀ i j, i < m → j < m → -100000000000000 ≤ M i j ∧ M i j ≤ 100000000000000) (hz : ∀ i, i < m → M i i = 0) :
    Calls Tryd.prog 101 #[.pointer (some ⟨g, 0, none⟩), .agg #[.int .i64 p.log, .int .i64 p.line, .int .i64 q.log, .int .i64 q.line]] W fun e w' => e = .returned (.bool (okT win a b M)) ∧ KeepGs gs m W w' ∧ MostA w' base g mb m mc win gs cs (aM m win a b M) := by
  have ha : a < m := by rw [← hl, ← hpa]; exact List.idxOf_lt_length_of_mem hp
  have hb : b < m := by rw [← hl, ← hqb]; exact List.idxOf_lt_length_of_mem hq
  have n1 := (New.refl W).alloc (.cells #[.int .i64 p.log, .int .i64 p.line, .int .i64 q.log, .int .i64 q.line] 79)
  have r1 := RowIs.new W 79 [.int .i64 p.log, .int .i64 p.line, .int .i64 q.log, .int .i64 q.line]
  have H := Lib.hid (h.keep n1)
  have HX := Lib.hid (n1.cellOf hx)
  have HI := Lib.hid (hI.keep n1)
  have HR := Lib.hid r1
  have HK := Lib.hid ((KeepGs.refl gs m W).new n1)
  have HBD := Lib.hid hbd
  have HZ := Lib.hid hz
  clear h hx hI n1 r1 hbd hz
  go_enter Tryd.func101, Tryd.ntmps101
  go_wp2_with fail
  generalize hB : W.heap.size = B at *
  generalize hW1 : W.alloc (.cells #[.int .i64 p.log, .int .i64 p.line, .int .i64 q.log, .int .i64 q.line] 79) = W1 at *
  clear hW1
  have HSD : Hid (∀ w', New W1 w' → w'.cell? ⟨g, 2, none⟩ = some (.map (some ib)) ∧ (w'.cell? ⟨B, 0, none⟩ = some (.int .i64 p.log) ∧ w'.cell? ⟨B, 1, none⟩ = some (.int .i64 p.line) ∧ w'.cell? ⟨B, 2, none⟩ = some (.int .i64 q.log) ∧ w'.cell? ⟨B, 3, none⟩ = some (.int .i64 q.line)) ∧ (Instr.lookup 158 (.map (some ib)) (.agg #[.int .i64 p.log, .int .i64 p.line]) false).run Tryd.prog w' = .ok (.int .i64 a) w' ∧ (Instr.lookup 158 (.map (some ib)) (.agg #[.int .i64 q.log, .int .i64 q.line]) false).run Tryd.prog w' = .ok (.int .i64 b) w') := Lib.hid fun w' hn => ⟨hn.cellOf HX.out, ⟨(HR.out.keep hn).cell rfl, (HR.out.keep hn).cell rfl, (HR.out.keep hn).cell rfl, (HR.out.keep hn).cell rfl⟩, by
    have := (HI.out.keep hn).get hps hp
    rw [hpa] at this
    exact this, by
    have := (HI.out.keep hn).get hqs hq
    rw [hqb] at this
    exact this⟩
  refine region_plain (by kernel_rfl) (wpAny_of_held (S := fun w' => w'.cell? ⟨g, 2, none⟩ = some (.map (some ib)) ∧ (w'.cell? ⟨B, 0, none⟩ = some (.int .i64 p.log) ∧ w'.cell? ⟨B, 1, none⟩ = some (.int .i64 p.line) ∧ w'.cell? ⟨B, 2, none⟩ = some (.int .i64 q.log) ∧ w'.cell? ⟨B, 3, none⟩ = some (.int .i64 q.line)) ∧ (Instr.lookup 158 (.map (some ib)) (.agg #[.int .i64 p.log, .int .i64 p.line]) false).run Tryd.prog w' = .ok (.int .i64 a) w' ∧ (Instr.lookup 158 (.map (some ib)) (.agg #[.int .i64 q.log, .int .i64 q.line]) false).run Tryd.prog w' = .ok (.int .i64 b) w') _ _ _ _ ?_)
  change wpAnyH _ _ _ _ _ _ _ _ W1.drew
  have hS := HSD.out W1.drew (New.refl W1).drew
  refine wpAnyH_take (i := 0) (v := ?_) rfl (by kernel_rfl) (by kernel_rfl) (by kernel_rfl) (fun _ _ _ h => h) (Or.inl ⟨by rfl, fun w' hS' => ?_⟩) hS ?_
  rotate_left
  · obtain ⟨s0, ⟨s1, s2, s3, s4⟩, s5, s6⟩ := hS'
    go_simp
    try rfl
  try simp only [List.getElem_toArray, List.getElem_cons_zero, Act.put, List.setIfInBounds_toArray, List.set_cons_zero, List.set_cons_succ]
  refine wpAnyH_take (i := 1) (v := ?_) rfl (by kernel_rfl) (by kernel_rfl) (by kernel_rfl) (fun _ _ _ h => h) (Or.inl ⟨by rfl, fun w' hS' => ?_⟩) hS ?_
  rotate_left
  · obtain ⟨s0, ⟨s1, s2, s3, s4⟩, s5, s6⟩ := hS'
    go_simp
    try rfl
  try simp only [List.getElem_toArray, List.getElem_cons_zero, List.getElem_cons_succ, Act.put, List.setIfInBounds_toArray, List.set_cons_zero, List.set_cons_succ]
  refine wpAnyH_take (i := 2) (v := ?_) rfl (by kernel_rfl) (by kernel_rfl) (by kernel_rfl) (fun _ _ _ h => h) (Or.inl ⟨by rfl, fun w' hS' => ?_⟩) hS ?_
  rotate_left
  · obtain ⟨s0, ⟨s1, s2, s3, s4⟩, s5, s6⟩ := hS'
    go_simp
    try rfl
  try simp only [List.getElem_toArray, List.getElem_cons_zero, List.getElem_cons_succ, Act.put, List.setIfInBounds_toArray, List.set_cons_zero, List.set_cons_succ]
  refine wpAnyH_take (i := 3) (v := ?_) rfl (by kernel_rfl) (by kernel_rfl) (by kernel_rfl) (fun _ _ _ h => h) (Or.inl ⟨by rfl, fun w' hS' => ?_⟩) hS ?_
  rotate_left
  · obtain ⟨s0, ⟨s1, s2, s3, s4⟩, s5, s6⟩ := hS'
    go_simp
    try rfl
  try simp only [List.getElem_toArray, List.getElem_cons_zero, List.getElem_cons_succ, Act.put, List.setIfInBounds_toArray, List.set_cons_zero, List.set_cons_succ]
  refine wpAnyH_take (i := 4) (v := ?_) rfl (by kernel_rfl) (by kernel_rfl) (by kernel_rfl) (fun _ _ _ h => h) (Or.inl ⟨by rfl, fun w' hS' => ?_⟩) hS ?_
  rotate_left
  · obtain ⟨s0, ⟨s1, s2, s3, s4⟩, s5, s6⟩ := hS'
    go_simp
    try rfl
  try simp only [List.getElem_toArray, List.getElem_cons_zero, List.getElem_cons_succ, Act.put, List.setIfInBounds_toArray, List.set_cons_zero, List.set_cons_succ]
  refine wpAnyH_take (i := 5) (v := ?_) rfl (by kernel_rfl) (by kernel_rfl) (by kernel_rfl) (fun _ _ _ h => h) (Or.inl ⟨by rfl, fun w' hS' => ?_⟩) hS ?_
  rotate_left
  · obtain ⟨s0, ⟨s1, s2, s3, s4⟩, s5, s6⟩ := hS'
    go_simp
    try rfl
  try simp only [List.getElem_toArray, List.getElem_cons_zero, List.getElem_cons_succ, Act.put, List.setIfInBounds_toArray, List.set_cons_zero, List.set_cons_succ]
  refine wpAnyH_take (i := 6) (v := ?_) rfl (by kernel_rfl) (by kernel_rfl) (by kernel_rfl) (fun _ _ _ h => h) (Or.inl ⟨by rfl, fun w' hS' => ?_⟩) hS ?_
  rotate_left
  · obtain ⟨s0, ⟨s1, s2, s3, s4⟩, s5, s6⟩ := hS'
    go_simp
    try rfl
  try simp only [List.getElem_toArray, List.getElem_cons_zero, List.getElem_cons_succ, Act.put, List.setIfInBounds_toArray, List.set_cons_zero, List.set_cons_succ]
  refine wpAnyH_take (i := 7) (v := ?_) rfl (by kernel_rfl) (by kernel_rfl) (by kernel_rfl) (fun _ _ _ h => h) (Or.inl ⟨by rfl, fun w' hS' => ?_⟩) hS ?_
  rotate_left
  · obtain ⟨s0, ⟨s1, s2, s3, s4⟩, s5, s6⟩ := hS'
    go_simp
    try rfl
  try simp only [List.getElem_toArray, List.getElem_cons_zero, List.getElem_cons_succ, Act.put, List.setIfInBounds_toArray, List.set_cons_zero, List.set_cons_succ]
  refine wpAnyH_take (i := 8) (v := ?_) rfl (by kernel_rfl) (by kernel_rfl) (by kernel_rfl) (fun _ _ _ h => h) (Or.inl ⟨by rfl, fun w' hS' => ?_⟩) hS ?_
  rotate_left
  · obtain ⟨s0, ⟨s1, s2, s3, s4⟩, s5, s6⟩ := hS'
    go_simp
    try rfl
  try simp only [List.getElem_toArray, List.getElem_cons_zero, List.getElem_cons_succ, Act.put, List.setIfInBounds_toArray, List.set_cons_zero, List.set_cons_succ]
  refine wpAnyH_take (i := 9) (v := ?_) rfl (by kernel_rfl) (by kernel_rfl) (by kernel_rfl) (fun _ _ _ h => h) (Or.inl ⟨by rfl, fun w' hS' => ?_⟩) hS ?_
  rotate_left
  · obtain ⟨s0, ⟨s1, s2, s3, s4⟩, s5, s6⟩ := hS'
    go_simp
    try rfl
  try simp only [List.getElem_toArray, List.getElem_cons_zero, List.getElem_cons_succ, Act.put, List.setIfInBounds_toArray, List.set_cons_zero, List.set_cons_succ]
  refine wpAnyH_take (i := 10) (v := ?_) rfl (by kernel_rfl) (by kernel_rfl) (by kernel_rfl) (fun _ _ _ h => h) (Or.inl ⟨by rfl, fun w' hS' => ?_⟩) hS ?_
  rotate_left
  · obtain ⟨s0, ⟨s1, s2, s3, s4⟩, s5, s6⟩ := hS'
    go_simp
    try rfl
  try simp only [List.getElem_toArray, List.getElem_cons_zero, List.getElem_cons_succ, Act.put, List.setIfInBounds_toArray, List.set_cons_zero, List.set_cons_succ]
  refine wpAnyH_take (i := 11) (v := ?_) rfl (by kernel_rfl) (by kernel_rfl) (by kernel_rfl) (fun _ _ _ h => h) (Or.inl ⟨by rfl, fun w' hS' => ?_⟩) hS ?_
  rotate_left
  · obtain ⟨s0, ⟨s1, s2, s3, s4⟩, s5, s6⟩ := hS'
    go_simp
    try rfl
  try simp only [List.getElem_toArray, List.getElem_cons_zero, List.getElem_cons_succ, Act.put, List.setIfInBounds_toArray, List.set_cons_zero, List.set_cons_succ]
  refine wpAnyH_take (i := 12) (v := ?_) rfl (by kernel_rfl) (by kernel_rfl) (by kernel_rfl) (fun _ _ _ h => h) (Or.inl ⟨by rfl, fun w' hS' => ?_⟩) hS ?_
  rotate_left
  · obtain ⟨s0, ⟨s1, s2, s3, s4⟩, s5, s6⟩ := hS'
    go_simp
    try rfl
  try simp only [List.getElem_toArray, List.getElem_cons_zero, List.getElem_cons_succ, Act.put, List.setIfInBounds_toArray, List.set_cons_zero, List.set_cons_succ]
  refine wpAnyH_take (i := 13) (v := ?_) rfl (by kernel_rfl) (by kernel_rfl) (by kernel_rfl) (fun _ _ _ h => h) (Or.inl ⟨by rfl, fun w' hS' => ?_⟩) hS ?_
  rotate_left
  · obtain ⟨s0, ⟨s1, s2, s3, s4⟩, s5, s6⟩ := hS'
    go_simp
    try rfl
  try simp only [List.getElem_toArray, List.getElem_cons_zero, List.getElem_cons_succ, Act.put, List.setIfInBounds_toArray, List.set_cons_zero, List.set_cons_succ]
  refine wpAnyH_take (i := 14) (v := ?_) rfl (by kernel_rfl) (by kernel_rfl) (by kernel_rfl) (fun _ _ _ h => h) (Or.inl ⟨by rfl, fun w' hS' => ?_⟩) hS ?_
  rotate_left
  · obtain ⟨s0, ⟨s1, s2, s3, s4⟩, s5, s6⟩ := hS'
    go_simp
    try rfl
  try simp only [List.getElem_toArray, List.getElem_cons_zero, List.getElem_cons_succ, Act.put, List.setIfInBounds_toArray, List.set_cons_zero, List.set_cons_succ]
  refine wpAnyH_take (i := 15) (v := ?_) rfl (by kernel_rfl) (by kernel_rfl) (by kernel_rfl) (fun _ _ _ h => h) (Or.inl ⟨by rfl, fun w' hS' => ?_⟩) hS ?_
  rotate_left
  · obtain ⟨s0, ⟨s1, s2, s3, s4⟩, s5, s6⟩ := hS'
    go_simp
    try rfl
  try simp only [List.getElem_toArray, List.getElem_cons_zero, List.getElem_cons_succ, Act.put, List.setIfInBounds_toArray, List.set_cons_zero, List.set_cons_succ]
  refine wpAnyH_done (by kernel_rfl) ?_ _
  unfold NormQ
  dsimp only [Exit.then]
  clear hS HSD
  have H2 := Lib.hid (H.out.keep (New.refl W1).drew)
  have HK2 := Lib.hid (HK.out.new (New.refl W1).drew)
  clear H HX HI HR HK
  generalize W1.drew = W2 at *
  have z0 := H2.out.win
  have z1 := H2.out.most
  have z2 := H2.out.out a ha
  have z3 := (H2.out.row a b ha hb).1
  have z4 := H2.out.out b hb
  have z5 := (H2.out.row b a hb ha).1
  have i1 : (a : Int) < (m : Int) := by omega
  have i2 : (b : Int) < (m : Int) := by omega
  have hwn : IntKind.i64.wrap (-win) = -win := IntWalk.i64_in _ (by omega)
  go_wp2_with fail
  by_cases h1 : M a b < -win
  · have hd : decide (M a b < -win) = true := by simpa using h1
    have ho : okT win a b M = false := by unfold okT; simp; omega
    go_quiet (fail)
    go_wp2_with fail
    go_ret
    have hk := (New.refl W2).drewN nq
    exact ⟨by first | rfl | (rw [ho]; rfl), HK2.out.new hk, by unfold aM; first | (rw [ho]; exact H2.out.keep hk) | exact H2.out.keep hk⟩
  · have hd : decide (M a b < -win) = false := by simpa using h1
    by_cases h2 : M b a < -win
    · have hd2 : decide (M b a < -win) = true := by simpa using h2
      have ho : okT win a b M = false := by unfold okT; simp; omega
      go_quiet (fail)
      go_wp2_with fail
      go_ret
      have hk := (New.refl W2).drewN nq
      exact ⟨by first | rfl | (rw [ho]; rfl), HK2.out.new hk, by unfold aM; first | (rw [ho]; exact H2.out.keep hk) | exact H2.out.keep hk⟩
    · have hd2 : decide (M b a < -win) = false := by simpa using h2
      have ho : okT win a b M = true := by unfold okT; simp; omega
      have hz1 := HZ.out a ha
      have hz2 := HZ.out b hb
      have h12 : -win ≤ tM m win a b M a b := by
        unfold tM
        split
        · omega
        · rw [tgt_all m win a b M ha]; omega
      have hb1 : ∀ i j, i < m → j < m → -1000000000000000 ≤ tM m win a b M i j ∧ tM m win a b M i j ≤ 1000000000000000 := fun i j hi hj => by
        have e1 := HBD.out i j hi hj
        have e2 := HBD.out i a hi ha
        have e3 := HBD.out b j hb hj
        unfold tM
        split
        · omega
        · rw [tgt_all m win a b M hi]; omega
      have HT1 : Hid (∀ w', New W2 w' → Calls Tryd.prog 125 #[.pointer (some ⟨g, 0, none⟩), .int .i64 a, .int .i64 b] w' fun e w'' => e = .returned (.tuple #[]) ∧ KeepGs gs m w' w'' ∧ MostA w'' base g mb m mc win gs cs (tM m win a b M)) := Lib.hid fun w' hn =>
        ck_tighten w' base g mb m mc win gs cs M (H2.out.keep hn) hm a b ha hb (by omega) hw (fun i j hi hj => by have := HBD.out i j hi hj; omega)
      have HT2 : Hid (∀ w', MostA w' base g mb m mc win gs cs (tM m win a b M) → Calls Tryd.prog 125 #[.pointer (some ⟨g, 0, none⟩), .int .i64 b, .int .i64 a] w' fun e w'' => e = .returned (.tuple #[]) ∧ KeepGs gs m w' w'' ∧ MostA w'' base g mb m mc win gs cs (tM m win b a (tM m win a b M))) := Lib.hid fun w' hh =>
        ck_tighten w' base g mb m mc win gs cs _ hh hm b a hb ha h12 hw hb1
      clear hb1 h12 hz1 hz2
      go_quiet (fail)
      have hk := (New.refl W2).drewN nq
      go_wp2_with fail
      refine (HT1.out _ hk).mono ?_
      rintro e w5 ⟨rfl, k5, m5⟩
      go_wp2_with fail
      refine (HT2.out _ m5).mono ?_
      rintro e w6 ⟨rfl, k6, m6⟩
      go_wp2_with fail
      go_ret
      exact ⟨by first | rfl | (rw [ho]; rfl), ((HK2.out.new hk).trans k5).trans k6, by unfold aM; rw [if_pos ho]; exact m6⟩
end Go.Proofs.YtlhdhfhfdkldjaaDoor
