/-
  newHearing of the program: what a mode and two texts are read as. Condition: texts of at most 1000000 bytes.
-/
import Derived.Test.YthodoabppkeidaaGreatDoorCpFillK
namespace Go.Proofs.YthodoabppkeidaaGreatDoor
open Go Go.RowKit
/-- The struct of a hearing as a value: a medium and two slices of keys. -/
def hearV (m : Md) (vs vh : Value) : Value := .agg #[medV m, vs, vh]
def noHear : Value := .agg #[.nilIface, .slice none 0 0, .slice none 0 0]
theorem two_at (w : World) (s h : Bytes) : SlAt (w.alloc (.cells #[.string (B s), .string (B h)] 9)) (.slice (some ⟨w.heap.size, 0, none⟩) 2 2) ([s, h].map strV) :=
  (RowIs.new w 9 [.string (B s), .string (B h)]).slice (by simp)
theorem keysAll_two {s h : Bytes} {a b : List Nat} (ha : keysOf s = some a) (hb : keysOf h = some b) : keysAll [s, h] = some [a, b] := by
  simp [keysAll, ha, hb]
theorem keysAll_two_none {s h : Bytes} (hn : keysOf s = none ∨ keysOf h = none) : keysAll [s, h] = none := by
  rcases hn with h1 | h1
  · exact keysAll_none (by simp) h1
  · exact keysAll_none (s := h) (by simp) h1
theorem cp_two_long (s h : Bytes) (w : World) (hs : s.length ≤ 1000000) (hh : h.length ≤ 1000000) (hl : 64 < s.length ∨ 64 < h.length) :
    Calls Tryz.prog 77 #[.slice (some ⟨w.heap.size, 0, none⟩) 2 2] (w.alloc (.cells #[.string (B s), .string (B h)] 9)) fun e w' => e = .returned (.tuple #[.slice none 0 0, .int .i64 2]) ∧ New w w' :=
  (cp_readTexts [s, h] _ _ (two_at w s h) (by simp) (by simp; omega)).mono fun e w' ⟨h1, h2⟩ => by
    rw [if_pos (by rcases hl with h' | h'; exact ⟨s, by simp, h'⟩; exact ⟨h, by simp, h'⟩)] at h2
    exact ⟨h2, ((New.refl w).alloc _).trans h1⟩
theorem cp_two_bad (s h : Bytes) (w : World) (hs : s.length ≤ 64) (hh : h.length ≤ 64) (hl : keysOf s = none ∨ keysOf h = none) :
    Calls Tryz.prog 77 #[.slice (some ⟨w.heap.size, 0, none⟩) 2 2] (w.alloc (.cells #[.string (B s), .string (B h)] 9)) fun e w' => e = .returned (.tuple #[.slice none 0 0, .int .i64 41]) ∧ New w w' :=
  (cp_readTexts [s, h] _ _ (two_at w s h) (by simp) (by simp; omega)).mono fun e w' ⟨h1, h2⟩ => by
    rw [if_neg (by simp; omega), keysAll_two_none hl] at h2
    exact ⟨h2, ((New.refl w).alloc _).trans h1⟩
theorem cp_two_ok (s h : Bytes) (w : World) (hs : s.length ≤ 64) (hh : h.length ≤ 64) {a b : List Nat} (ha : keysOf s = some a) (hb : keysOf h = some b) :
    Calls Tryz.prog 77 #[.slice (some ⟨w.heap.size, 0, none⟩) 2 2] (w.alloc (.cells #[.string (B s), .string (B h)] 9)) fun e w' =>
      ∃ g g1 g2, e = .returned (.tuple #[.slice (some ⟨g, 0, none⟩) 2 2, .int .i64 0]) ∧ (New w w' ∧ w'.cell? ⟨g, 0, none⟩ = some (ksl g1 a.length) ∧ w'.cell? ⟨g, 1, none⟩ = some (ksl g2 b.length) ∧ RowIs w' g1 66 (keysV a) ∧ RowIs w' g2 66 (keysV b) ∧ w.heap.size < g1 ∧ w.heap.size < g2) :=
  (cp_readTexts [s, h] _ _ (two_at w s h) (by simp) (by simp; omega)).mono fun e w' ⟨h1, h2⟩ => by
    rw [if_neg (by simp; omega), keysAll_two ha hb] at h2
    obtain ⟨g, gs, h3, h4, h5, h6, h7⟩ := h2
    rw [World.size_alloc] at h7
    match gs, h6, h5, h7 with
    | [g1, g2], h6, h5, h7 =>
      exact ⟨g, g1, g2, h4, ((New.refl w).alloc _).trans h1, h5.cell rfl, h5.cell rfl, h6.1, h6.2.1, h7 g1 (by simp), h7 g2 (by simp)⟩
theorem noHear_block (w : World) : (w.alloc (.cells #[.nilIface, .slice none 0 0, .slice none 0 0] 89)).heap[w.heap.size]? = some (.cells #[.nilIface, .slice none 0 0, .slice none 0 0] 89 (0, 0)) := heap_alloc_new w _
set_option maxHeartbeats 400000 in
theorem cp_newHearing_mode (n : Int) (s h : ByteArray) (w : World) (hm : mdOf n = none) :
    Calls Tryz.prog 61 #[.int .i64 n, .string s, .string h] w fun e w' => e = .returned (.tuple #[noHear, .int .i64 40]) ∧ New w w' := by
  have hr := RowIs.new w 89 [.nilIface, .slice none 0 0, .slice none 0 0]
  have HM := Lib.hid hm
  clear hm
  go_enter Tryz.func61, Tryz.ntmps61
  go_wp2_with fail
  refine (cp_mediumOf_no n _ HM.out).mono ?_
  rintro e w' ⟨rfl, rfl⟩
  go_wp2_with fail
  exact bodyPost_ret (v := .tuple #[.agg #[.nilIface, .slice none 0 0, .slice none 0 0], .int .i64 40]) (by simp [results, Tryz.results61, go_sem]) rfl ⟨rfl, (New.refl w).alloc _⟩
set_option maxHeartbeats 400000 in
theorem cp_newHearing_err (m : Md) (n E : Int) (s h : Bytes) (w : World) (hm : mdOf n = some m) (hE : (E != 0) = true)
    (hc : Calls Tryz.prog 77 #[.slice (some ⟨w.heap.size + 1, 0, none⟩) 2 2] ((w.alloc (.cells #[.nilIface, .slice none 0 0, .slice none 0 0] 89)).alloc (.cells #[.string (B s), .string (B h)] 9)) fun e w' => e = .returned (.tuple #[.slice none 0 0, .int .i64 E]) ∧ New (w.alloc (.cells #[.nilIface, .slice none 0 0, .slice none 0 0] 89)) w') :
    Calls Tryz.prog 61 #[.int .i64 n, .string (B s), .string (B h)] w fun e w' => e = .returned (.tuple #[noHear, .int .i64 E]) ∧ New w w' := by
  have hr := RowIs.new w 89 [.nilIface, .slice none 0 0, .slice none 0 0]
  have HM := Lib.hid hm
  have HC := Lib.hid hc
  clear hm hc
  go_enter Tryz.func61, Tryz.ntmps61
  go_wp2_with fail
  refine (cp_mediumOf m n _ HM.out).mono ?_
  rintro e w' ⟨rfl, rfl⟩
  go_wp2_with fail
  refine HC.out.mono ?_
  rintro e w2 ⟨rfl, h2⟩
  have hr2 := hr.keep h2
  have c0 := hr2.cell (i := 0) rfl
  have c1 := hr2.cell (i := 1) rfl
  have c2 := hr2.cell (i := 2) rfl
  have f0 := hr2.free 0
  have f1 := hr2.free 1
  have f2 := hr2.free 2
  have hN := ((New.refl w).alloc (.cells #[.nilIface, .slice none 0 0, .slice none 0 0] 89)).trans h2
  have hlt := hr2.lt
  have HR := Lib.hid hr2
  have HN := Lib.hid hN
  clear hr hr2 h2 hN
  go_wp2_with fail
  obtain ⟨q0, q1, q2⟩ := HR.out.put3 .nilIface (.slice none 0 0) (.slice none 0 0)
  exact bodyPost_ret (v := .tuple #[.agg #[.nilIface, .slice none 0 0, .slice none 0 0], .int .i64 E]) (by simp [results, Tryz.results61, go_sem, q0, q1, q2]) rfl
    ⟨rfl, ((HN.out.setCell (Nat.le_refl _) _).setCell (Nat.le_refl _) _).setCell (Nat.le_refl _) _⟩
theorem cp_newHearing_long (m : Md) (n : Int) (s h : Bytes) (w : World) (hm : mdOf n = some m) (hs : s.length ≤ 1000000) (hh : h.length ≤ 1000000) (hl : 64 < s.length ∨ 64 < h.length) :
    Calls Tryz.prog 61 #[.int .i64 n, .string (B s), .string (B h)] w fun e w' => e = .returned (.tuple #[noHear, .int .i64 2]) ∧ New w w' := by
  have h1 := cp_two_long s h (w.alloc (.cells #[.nilIface, .slice none 0 0, .slice none 0 0] 89)) hs hh hl
  rw [World.size_alloc] at h1
  exact cp_newHearing_err m n 2 s h w hm rfl h1
theorem cp_newHearing_bad (m : Md) (n : Int) (s h : Bytes) (w : World) (hm : mdOf n = some m) (hs : s.length ≤ 64) (hh : h.length ≤ 64) (hl : keysOf s = none ∨ keysOf h = none) :
    Calls Tryz.prog 61 #[.int .i64 n, .string (B s), .string (B h)] w fun e w' => e = .returned (.tuple #[noHear, .int .i64 41]) ∧ New w w' := by
  have h1 := cp_two_bad s h (w.alloc (.cells #[.nilIface, .slice none 0 0, .slice none 0 0] 89)) hs hh hl
  rw [World.size_alloc] at h1
  exact cp_newHearing_err m n 41 s h w hm rfl h1
set_option maxRecDepth 100000 in
set_option maxHeartbeats 400000 in
theorem cp_newHearing_ok (m : Md) (n : Int) (s h : Bytes) (w : World) (hm : mdOf n = some m) (hs : s.length ≤ 64) (hh : h.length ≤ 64) {a b : List Nat} (ha : keysOf s = some a) (hb : keysOf h = some b) :
    Calls Tryz.prog 61 #[.int .i64 n, .string (B s), .string (B h)] w fun e w' => ∃ g1 g2, e = .returned (.tuple #[hearV m (ksl g1 a.length) (ksl g2 b.length), .int .i64 0]) ∧ (New w w' ∧ RowIs w' g1 66 (keysV a) ∧ RowIs w' g2 66 (keysV b)) := by
  have hr := RowIs.new w 89 [.nilIface, .slice none 0 0, .slice none 0 0]
  have HM := Lib.hid hm
  have hc := cp_two_ok s h (w.alloc (.cells #[.nilIface, .slice none 0 0, .slice none 0 0] 89)) hs hh ha hb
  simp only [World.size_alloc] at hc
  have HC := Lib.hid hc
  clear hm hc
  go_enter Tryz.func61, Tryz.ntmps61
  go_wp2_with fail
  refine (cp_mediumOf m n _ HM.out).mono ?_
  rintro e w' ⟨rfl, rfl⟩
  obtain ⟨tm, hmv⟩ : ∃ tm, medV m = .iface tm (.agg #[]) := ⟨_, medV_eq m⟩
  rw [hmv]
  have HMV := Lib.hid hmv
  clear hmv
  go_wp2_with fail
  refine HC.out.mono ?_
  rintro e w2 ⟨g, g1, g2, rfl, h2, e0, e1, k1, k2, l1, l2⟩
  have hr2 := hr.keep h2
  have c0 := hr2.cell (i := 0) rfl
  have c1 := hr2.cell (i := 1) rfl
  have c2 := hr2.cell (i := 2) rfl
  have f0 := hr2.free 0
  have f1 := hr2.free 1
  have f2 := hr2.free 2
  have hN := ((New.refl w).alloc (.cells #[.nilIface, .slice none 0 0, .slice none 0 0] 89)).trans h2
  have HR := Lib.hid hr2
  have HN := Lib.hid hN
  have HK := Lib.hid (And.intro k1 k2)
  clear hr hr2 h2 hN k1 k2
  go_wp2_with fail
  unfold ksl at e0 e1
  go_still_tail 8, (by kernel_rfl)
  change wpList _ _ _ _ _ w2.drew
  have d0 : w2.drew.cell? ⟨w.heap.size, 0, none⟩ = some .nilIface := c0
  have d1 : w2.drew.cell? ⟨w.heap.size, 1, none⟩ = some (.slice none 0 0) := c1
  have d2 : w2.drew.cell? ⟨w.heap.size, 2, none⟩ = some (.slice none 0 0) := c2
  have q0 : w2.drew.frozen? ⟨w.heap.size, 0, none⟩ = false := f0
  have q1 : w2.drew.frozen? ⟨w.heap.size, 1, none⟩ = false := f1
  have q2 : w2.drew.frozen? ⟨w.heap.size, 2, none⟩ = false := f2
  have HR2 := Lib.hid HR.out.drew
  have HN2 := Lib.hid HN.out.drew
  have HK1 := Lib.hid (HK.out.1.drew)
  have HK2 := Lib.hid (HK.out.2.drew)
  generalize w2.drew = w3 at *
  clear c0 c1 c2 f0 f1 f2 e0 e1 HR HN HK
  go_wp2_with fail
  obtain ⟨p0, p1, p2⟩ := HR2.out.put3 (.iface tm (.agg #[])) (.slice (some ⟨g1, 0, none⟩) a.length a.length) (.slice (some ⟨g2, 0, none⟩) b.length b.length)
  have hN : New w (((w3.setCell ⟨w.heap.size, 0, none⟩ (.iface tm (.agg #[]))).setCell ⟨w.heap.size, 1, none⟩ (.slice (some ⟨g1, 0, none⟩) a.length a.length)).setCell ⟨w.heap.size, 2, none⟩ (.slice (some ⟨g2, 0, none⟩) b.length b.length)) :=
    ((HN2.out.setCell (Nat.le_refl _) _).setCell (Nat.le_refl _) _).setCell (Nat.le_refl _) _
  refine bodyPost_ret (v := .tuple #[.agg #[.iface tm (.agg #[]), .slice (some ⟨g1, 0, none⟩) a.length a.length, .slice (some ⟨g2, 0, none⟩) b.length b.length], .int .i64 0]) (by simp [results, Tryz.results61, go_sem, p0, p1, p2]) rfl
    ⟨g1, g2, by rw [hearV, HMV.out]; rfl, hN, ?_, ?_⟩
  · exact ((HK1.out.other (by omega) _ _).other (by omega) _ _).other (by omega) _ _
  · exact ((HK2.out.other (by omega) _ _).other (by omega) _ _).other (by omega) _ _

end Go.Proofs.YthodoabppkeidaaGreatDoor
