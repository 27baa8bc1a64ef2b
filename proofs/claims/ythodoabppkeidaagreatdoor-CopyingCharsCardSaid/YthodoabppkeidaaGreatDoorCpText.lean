/-
  readText, readTexts of the program: the keys of texts. Condition: texts of at most 1000000 bytes.
-/
import Derived.Test.YthodoabppkeidaaGreatDoorCpRow
namespace Go.Proofs.YthodoabppkeidaaGreatDoor
open Go Go.RowKit
/-- Keys as values. -/
def kV (k : Nat) : Value := .int .i64 k
def keysV (ks : List Nat) : List Value := ks.map kV
theorem keysV_len (ks : List Nat) : (keysV ks).length = ks.length := by simp [keysV]
theorem info_key : (Tryz.prog.info? 66).map (fun i => (i.zero, i.size, i.bytes)) = some (some (.int .i64 0), 1, 8) := by kernel_rfl
theorem make_keys (n : Nat) (hn : n ≤ 1000000) (w : World) :
    (Instr.makeSlice 87 (.int .i64 n) (.int .i64 n)).run Tryz.prog w = .ok (.slice (some ⟨w.heap.size, 0, none⟩) n n) (w.alloc (.cells (Array.replicate n (Value.int .i64 0)) 66)) :=
  make_row Tryz.underlying87 info_key rfl (by omega) n hn w
/-- The row of keys while a text is read: the first i are done. -/
def keyRow (s : Bytes) (i : Nat) : List Value := keysV ((s.take i).map keyOf) ++ List.replicate (s.length - i) (.int .i64 0)
theorem keyRow_zero (s : Bytes) : keyRow s 0 = List.replicate s.length (.int .i64 0) := by simp [keyRow, keysV]
theorem keyRow_all (s : Bytes) : keyRow s s.length = keysV (s.map keyOf) := by simp [keyRow]
theorem keyRow_len (s : Bytes) (i : Nat) (h : i ≤ s.length) : (keyRow s i).length = s.length := by
  simp [keyRow, keysV]; omega
theorem set_mid (a : List Value) (x v : Value) (b : List Value) : (a ++ x :: b).set a.length v = a ++ v :: b := by
  rw [List.set_append_right _ _ (Nat.le_refl _), Nat.sub_self]; rfl
theorem keyRow_at {s : Bytes} {i : Nat} (h : i < s.length) : (keyRow s i)[i]? = some (.int .i64 0) := by
  have e2 : (keysV ((s.take i).map keyOf)).length = i := by simp [keysV]; omega
  rw [keyRow, List.getElem?_append_right (by omega), e2, Nat.sub_self, show s.length - i = (s.length - (i + 1)) + 1 by omega, List.replicate_succ]
  rfl
theorem keyRow_step (s : Bytes) (i : Nat) (h : i < s.length) : (keyRow s i).set i (kV (keyOf s[i])) = keyRow s (i + 1) := by
  have e1 : List.replicate (s.length - i) (Value.int .i64 0) = .int .i64 0 :: List.replicate (s.length - (i + 1)) (.int .i64 0) := by
    rw [show s.length - i = (s.length - (i + 1)) + 1 by omega, List.replicate_succ]
  have e2 : (keysV ((s.take i).map keyOf)).length = i := by simp [keysV]; omega
  unfold keyRow
  rw [e1]
  have h2 := set_mid (keysV ((s.take i).map keyOf)) (.int .i64 0) (kV (keyOf s[i])) (List.replicate (s.length - (i + 1)) (.int .i64 0))
  rw [e2] at h2
  rw [h2, List.take_succ_eq_append_getElem h, List.map_append, keysV, keysV, List.map_append, List.append_assoc]
  rfl
theorem extract_one (s : ByteArray) (i : Nat) (h : i < s.size) : s.extract i (i + 1) = B [s[i]] := by
  apply bs_inj
  rw [bs_B]
  have h' : i < (bs s).length := by rw [bs_size]; exact h
  show (s.extract i (i + 1)).data.toList = _
  rw [Lib.extract_data, Nat.add_sub_cancel_left]
  have h2 := bs_get s i h
  rw [List.getElem?_eq_getElem h'] at h2
  show ((bs s).drop i).take 1 = _
  rw [List.drop_eq_getElem_cons h', Option.some.inj h2]
  rfl
theorem bs_at (s : ByteArray) (i : Nat) (h : i < s.size) : (bs s)[i]'(by rw [bs_size]; exact h) = s[i] := by
  have h2 := bs_get s i h
  rw [List.getElem?_eq_getElem (by rw [bs_size]; exact h)] at h2
  exact Option.some.inj h2
/-- What readText returns. -/
def TextRead (w : World) (s : ByteArray) (e : Ending) (w' : World) : Prop :=
  New w w' ∧ match keysOf (bs s) with
    | none => e = .returned (.tuple #[.slice none 0 0, .int .i64 41])
    | some ks => ∃ g, w.heap.size ≤ g ∧ e = .returned (.tuple #[.slice (some ⟨g, 0, none⟩) s.size s.size, .int .i64 0]) ∧ RowIs w' g 66 (keysV ks)
theorem keys_stop {s : ByteArray} {i : Nat} (h : i < s.size) (hk : ¬ keyOf s[i] < 37) : keysOf (bs s) = none :=
  keysOf_none (b := s[i]) (by rw [← bs_at s i h]; exact List.getElem_mem _) hk
set_option maxHeartbeats 400000 in
theorem cp_readText (s : ByteArray) (w : World) (hs : s.size ≤ 1000000) : Calls Tryz.prog 103 #[.string s] w (TextRead w s) := by
  have hmk := make_keys s.size hs
  have hbl := bs_size s
  have HBL := Lib.hid hbl
  clear hbl
  go_enter Tryz.func103, Tryz.ntmps103
  go_wp2_with fail
  go_loopw [13] (fun i wr => ∃ j : Nat, j ≤ s.size ∧ i = .int .i64 j ∧ (∀ b ∈ (bs s).take j, keyOf b < 37) ∧ RowIs wr w.heap.size 66 (keyRow (bs s) j) ∧ New w wr) (fun i _ => s.size - (intOf i).toNat)
  case atStart => exact ⟨0, by omega, rfl, by simp, by rw [keyRow_zero, HBL.out]; exact RowIs.zeros w _ _ _, (New.refl w).alloc _⟩
  case round =>
    obtain ⟨j, hj, rfl, hk, hrow, hn⟩ := hrel
    have HK := Lib.hid hk
    have HR := Lib.hid hrow
    clear hk hrow
    by_cases hlt : j < s.size
    · have hx := extract_one s j hlt
      by_cases hkey : keyOf s[j] < 37
      · have hc : wr.cell? ⟨w.heap.size, j, none⟩ = some (.int .i64 0) := HR.out.cell (keyRow_at (by rw [HBL.out]; exact hlt))
        have hf := HR.out.free j
        have R := (HR.out.put j (kV (keyOf s[j])))
        have HRR := Lib.hid R
        clear R
        have hkv : keyV s[j] = .tuple #[.int .i64 (keyOf s[j]), .int .i64 0] := if_pos hkey
        go_wp2_with (go_at_call 50; refine (cp_readKey_one s[j] _).mono ?_; rintro e w' ⟨rfl, rfl⟩)
        go_roundw
        case rel =>
          refine ⟨j + 1, by omega, by go_num, fun b hb => ?_, ?_, hn.setCell (Nat.le_refl _) _⟩
          · rw [List.take_succ_eq_append_getElem (by rw [HBL.out]; exact hlt)] at hb
            rcases List.mem_append.1 hb with h | h
            · exact HK.out b h
            · rw [List.mem_singleton] at h
              rw [h, bs_at s j hlt]
              exact hkey
          · have h2 := HRR.out
            rw [← bs_at s j hlt, keyRow_step] at h2
            rw [bs_at s j hlt] at h2
            exact h2
        case measure => simp [intOf]; omega
      · have hkv : keyV s[j] = .tuple #[.int .i64 0, .int .i64 41] := if_neg hkey
        have HS := Lib.hid (keys_stop hlt hkey)
        go_wp2_with (go_at_call 50; refine (cp_readKey_one s[j] _).mono ?_; rintro e w' ⟨rfl, rfl⟩)
        go_ret2
        refine ⟨hn, ?_⟩
        rw [HS.out]
        rfl
    · obtain rfl : j = s.size := by omega
      have h1 := HK.out
      have h2 := HR.out
      rw [← HBL.out] at h1 h2
      rw [List.take_length] at h1
      rw [keyRow_all] at h2
      have H1 := Lib.hid (keysOf_map h1)
      have H2 := Lib.hid h2
      clear h1 h2
      go_wp2_with fail
      go_ret2
      refine ⟨hn, ?_⟩
      rw [H1.out]
      exact ⟨_, Nat.le_refl _, rfl, H2.out⟩

theorem cp_readText_no (b : Bytes) (w : World) (hs : b.length ≤ 1000000) (hk : keysOf b = none) : Calls Tryz.prog 103 #[.string (B b)] w fun e w' => e = .returned (.tuple #[.slice none 0 0, .int .i64 41]) ∧ New w w' :=
  (cp_readText (B b) w (by rw [B_size]; exact hs)).mono fun e w' ⟨h1, h2⟩ => by
    rw [bs_B, hk] at h2
    exact ⟨h2, h1⟩
theorem cp_readText_yes (b : Bytes) (w : World) (hs : b.length ≤ 1000000) {ks : List Nat} (hk : keysOf b = some ks) : Calls Tryz.prog 103 #[.string (B b)] w fun e w' =>
    ∃ g, e = .returned (.tuple #[.slice (some ⟨g, 0, none⟩) b.length b.length, .int .i64 0]) ∧ (w.heap.size ≤ g ∧ RowIs w' g 66 (keysV ks) ∧ New w w') :=
  (cp_readText (B b) w (by rw [B_size]; exact hs)).mono fun e w' ⟨h1, h2⟩ => by
    rw [bs_B, hk] at h2
    obtain ⟨g, h3, h4, h5⟩ := h2
    rw [B_size] at h4
    exact ⟨g, h4, h3, h5, h1⟩
/-- The keys of some texts; none: a byte of one is no character. -/
def keysAll : List Bytes → Option (List (List Nat))
  | [] => some []
  | s :: l => match keysOf s, keysAll l with
    | some k, some ks => some (k :: ks)
    | _, _ => none
theorem keysAll_map : ∀ {l : List Bytes}, (∀ s ∈ l, ∀ b ∈ s, keyOf b < 37) → keysAll l = some (l.map (·.map keyOf))
  | [], _ => rfl
  | s :: l, h => by
    rw [keysAll, keysOf_map (h s (by simp)), keysAll_map (fun t ht => h t (by simp [ht]))]
    rfl
theorem keysAll_none : ∀ {l : List Bytes} {s : Bytes}, s ∈ l → keysOf s = none → keysAll l = none
  | a :: l, s, hm, hs => by
    rw [keysAll]
    rcases List.mem_cons.1 hm with rfl | hm
    · rw [hs]
    · rw [keysAll_none hm hs]
      cases keysOf a <;> rfl
/-- Slices of keys, of the call's own: block gs[i] holds the i-th. -/
def ksl (g n : Nat) : Value := .slice (some ⟨g, 0, none⟩) n n
def KeyRows (w : World) : List Nat → List (List Nat) → Prop
  | [], [] => True
  | g :: gs, k :: ks => RowIs w g 66 (keysV k) ∧ KeyRows w gs ks
  | _, _ => False
theorem KeyRows.keep {w w' : World} (k : New w w') : ∀ {gs : List Nat} {ks : List (List Nat)}, KeyRows w gs ks → KeyRows w' gs ks
  | [], [], _ => trivial
  | _ :: _, _ :: _, h => ⟨h.1.keep k, KeyRows.keep k h.2⟩
  | [], _ :: _, h => h.elim
  | _ :: _, [], h => h.elim
theorem KeyRows.len {w : World} : ∀ {gs : List Nat} {ks : List (List Nat)}, KeyRows w gs ks → gs.length = ks.length
  | [], [], _ => rfl
  | _ :: _, _ :: _, h => by rw [List.length_cons, List.length_cons, KeyRows.len h.2]
  | [], _ :: _, h => h.elim
  | _ :: _, [], h => h.elim
theorem KeyRows.snoc {w : World} {g : Nat} {k : List Nat} (hg : RowIs w g 66 (keysV k)) : ∀ {gs : List Nat} {ks : List (List Nat)}, KeyRows w gs ks → KeyRows w (gs ++ [g]) (ks ++ [k])
  | [], [], _ => ⟨hg, trivial⟩
  | _ :: _, _ :: _, h => ⟨h.1, KeyRows.snoc hg h.2⟩
  | [], _ :: _, h => h.elim
  | _ :: _, [], h => h.elim
theorem KeyRows.put {w : World} {g i : Nat} {v : Value} : ∀ {gs : List Nat} {ks : List (List Nat)}, KeyRows w gs ks → g ∉ gs → KeyRows (w.setCell ⟨g, i, none⟩ v) gs ks
  | [], [], _, _ => trivial
  | a :: gs, _ :: _, h, hn => ⟨h.1.other (fun e => hn (by rw [e]; simp)) i v, KeyRows.put h.2 (fun e => hn (by simp [e]))⟩
  | [], _ :: _, h, _ => h.elim
  | _ :: _, [], h, _ => h.elim
/-- The slices of rows of keys. -/
def slsV : List Nat → List (List Nat) → List Value
  | g :: gs, k :: ks => ksl g k.length :: slsV gs ks
  | _, _ => []
theorem slsV_len : ∀ {gs : List Nat} {ks : List (List Nat)}, gs.length = ks.length → (slsV gs ks).length = ks.length
  | [], [], _ => rfl
  | _ :: _, _ :: _, h => by rw [slsV, List.length_cons, List.length_cons, slsV_len (by simpa using h)]
theorem slsV_snoc (g : Nat) (k : List Nat) : ∀ {gs : List Nat} {ks : List (List Nat)}, gs.length = ks.length → slsV (gs ++ [g]) (ks ++ [k]) = slsV gs ks ++ [ksl g k.length]
  | [], [], _ => rfl
  | _ :: _, _ :: _, h => by rw [List.cons_append, List.cons_append, slsV, slsV_snoc g k (by simpa using h)]; rfl
/-- What readTexts returns. -/
def TextsRead (w : World) (l : List Bytes) (e : Ending) (w' : World) : Prop :=
  New w w' ∧ if (∃ s ∈ l, 64 < s.length) then e = .returned (.tuple #[.slice none 0 0, .int .i64 2]) else match keysAll l with
    | none => e = .returned (.tuple #[.slice none 0 0, .int .i64 41])
    | some ks => ∃ g gs, w.heap.size ≤ g ∧ e = .returned (.tuple #[.slice (some ⟨g, 0, none⟩) l.length l.length, .int .i64 0]) ∧ RowIs w' g 87 (slsV gs ks) ∧ KeyRows w' gs ks ∧ ∀ a ∈ gs, w.heap.size ≤ a
theorem info_keys : (Tryz.prog.info? 87).map (fun i => (i.zero, i.size, i.bytes)) = some (some (.slice none 0 0), 1, 24) := by kernel_rfl
theorem make_keyss (n : Nat) (hn : n ≤ 1000000) (w : World) :
    (Instr.makeSlice 107 (.int .i64 n) (.int .i64 n)).run Tryz.prog w = .ok (.slice (some ⟨w.heap.size, 0, none⟩) n n) (w.alloc (.cells (Array.replicate n (Value.slice none 0 0)) 87)) :=
  make_row Tryz.underlying107 info_keys rfl (by omega) n hn w
/-- In the midst of the second loop: j texts are read. -/
structure TextsGo (w : World) (l : List Bytes) (j : Nat) (gs : List Nat) (wr : World) : Prop where
  good : ∀ s ∈ l.take j, ∀ b ∈ s, keyOf b < 37
  rows : KeyRows wr gs ((l.take j).map (·.map keyOf))
  above : ∀ g ∈ gs, w.heap.size < g
  row : RowIs wr w.heap.size 87 (slsV gs ((l.take j).map (·.map keyOf)) ++ List.replicate (l.length - j) (.slice none 0 0))
  new : New w wr
theorem TextsGo.start (w : World) (l : List Bytes) : TextsGo w l 0 [] (w.alloc (.cells (Array.replicate l.length (Value.slice none 0 0)) 87)) :=
  ⟨by simp, trivial, by simp, RowIs.zeros w _ _ _, (New.refl w).alloc _⟩
theorem TextsGo.len {w : World} {l : List Bytes} {j : Nat} {gs : List Nat} {wr : World} (h : TextsGo w l j gs wr) (hj : j ≤ l.length) : (slsV gs ((l.take j).map (·.map keyOf))).length = j := by
  rw [slsV_len h.rows.len, List.length_map, List.length_take]
  omega
theorem TextsGo.cell {w : World} {l : List Bytes} {j : Nat} {gs : List Nat} {wr : World} (h : TextsGo w l j gs wr) (hj : j < l.length) : wr.cell? ⟨w.heap.size, j, none⟩ = some (.slice none 0 0) := by
  refine h.row.cell ?_
  rw [List.getElem?_append_right (by rw [h.len (by omega)]; exact Nat.le_refl _), h.len (by omega), Nat.sub_self, show l.length - j = (l.length - (j + 1)) + 1 by omega, List.replicate_succ]
  rfl
theorem TextsGo.keep {w : World} {l : List Bytes} {j : Nat} {gs : List Nat} {wr w2 : World} (h : TextsGo w l j gs wr) (k : New wr w2) : TextsGo w l j gs w2 :=
  ⟨h.good, h.rows.keep k, h.above, h.row.keep k, h.new.trans k⟩
theorem TextsGo.step {w : World} {l : List Bytes} {j : Nat} {gs : List Nat} {wr w2 : World} {g : Nat} (h : TextsGo w l j gs wr) (k : New wr w2) (hj : j < l.length) {ks : List Nat} (hk : keysOf l[j] = some ks) (hg : wr.heap.size ≤ g) (hr : RowIs w2 g 66 (keysV ks)) :
    TextsGo w l (j + 1) (gs ++ [g]) (w2.setCell ⟨w.heap.size, j, none⟩ (ksl g l[j].length)) := by
  have h2 := h.keep k
  have hlt := h.row.lt
  obtain ⟨rfl, hb⟩ := keysOf_some hk
  have e1 : (l.take (j + 1)).map (·.map keyOf) = (l.take j).map (·.map keyOf) ++ [l[j].map keyOf] := by
    rw [List.take_succ_eq_append_getElem hj, List.map_append]
    rfl
  refine ⟨fun s hs b hb' => ?_, ?_, fun a ha => ?_, ?_, h2.new.setCell (Nat.le_refl _) _⟩
  · rw [List.take_succ_eq_append_getElem hj] at hs
    rcases List.mem_append.1 hs with h' | h'
    · exact h.good s h' b hb'
    · rw [List.mem_singleton] at h'
      subst h'
      exact hb b hb'
  · rw [e1]
    exact KeyRows.snoc (hr.other (by omega) _ _) (h2.rows.put (fun hm => by have := h.above _ hm; omega))
  · rcases List.mem_append.1 ha with h' | h'
    · exact h.above a h'
    · rw [List.mem_singleton] at h'
      omega
  · rw [e1, slsV_snoc g _ h.rows.len, List.append_assoc, List.length_map]
    have h3 := h2.row.put j (ksl g l[j].length)
    rw [show l.length - j = (l.length - (j + 1)) + 1 by omega, List.replicate_succ] at h3
    have h4 := set_mid (slsV gs ((l.take j).map (·.map keyOf))) (.slice none 0 0) (ksl g l[j].length) (List.replicate (l.length - (j + 1)) (.slice none 0 0))
    rw [h.len (by omega)] at h4
    rw [h4] at h3
    exact h3
theorem TextsGo.done {w : World} {l : List Bytes} {gs : List Nat} {wr : World} (h : TextsGo w l l.length gs wr) : ∃ ks, keysAll l = some ks ∧ RowIs wr w.heap.size 87 (slsV gs ks) ∧ KeyRows wr gs ks ∧ ∀ a ∈ gs, w.heap.size ≤ a := by
  have h1 := h.good
  have h2 := h.rows
  have h3 := h.row
  rw [List.take_length] at h1 h2 h3
  rw [Nat.sub_self, List.replicate_zero, List.append_nil] at h3
  exact ⟨_, keysAll_map h1, h3, h2, fun a ha => Nat.le_of_lt (h.above a ha)⟩
set_option maxHeartbeats 400000 in
theorem cp_readTexts (l : List Bytes) (v : Value) (w : World) (hv : SlAt w v (l.map strV)) (hl : l.length ≤ 1000) (hs : ∀ s ∈ l, s.length ≤ 1000000) : Calls Tryz.prog 77 #[v] w (TextsRead w l) := by
  obtain ⟨A, c, rfl, hc, hm, hcell⟩ := hv
  rw [List.length_map] at hc hcell ⊢
  have hmk := make_keyss l.length (by omega)
  go_enter Tryz.func77, Tryz.ntmps77
  go_wp2_with fail
  go_loop [13] (fun i => ∃ j : Nat, j ≤ l.length ∧ i = .int .i64 j ∧ ∀ s ∈ l.take j, s.length ≤ 64) (fun i => l.length - (intOf i).toNat)
  case atStart => exact ⟨0, by omega, rfl, by simp⟩
  case round =>
    obtain ⟨j, hj, rfl, hk⟩ := hrel
    have HK := Lib.hid hk
    have HC := Lib.hid hcell
    clear hk hcell
    by_cases hlt : j < l.length
    · obtain ⟨b, off, rfl, hb, hcl⟩ := HC.out (by omega)
      have hx := hcl j (.string (B l[j])) (by rw [List.getElem?_map, List.getElem?_eq_getElem hlt]; rfl)
      have hz := B_size l[j]
      have HCL := Lib.hid hcl
      clear hcl
      by_cases hlong : 64 < l[j].length
      · have HX : Hid (∃ s ∈ l, 64 < s.length) := Lib.hid ⟨l[j], List.getElem_mem _, hlong⟩
        go_wp2_with fail
        go_ret2
        refine ⟨New.refl _, ?_⟩
        rw [if_pos HX.out]
        rfl
      · go_wp2_with fail
        go_round
        case rel =>
          refine ⟨j + 1, by omega, by go_num, fun s hs' => ?_⟩
          rw [List.take_succ_eq_append_getElem hlt] at hs'
          rcases List.mem_append.1 hs' with h | h
          · exact HK.out s h
          · rw [List.mem_singleton] at h
            rw [h]
            omega
        case measure => simp [intOf]; omega
    · obtain rfl : j = l.length := by omega
      have h1 := HK.out
      rw [List.take_length] at h1
      have H1 : Hid (¬ ∃ s ∈ l, 64 < s.length) := Lib.hid (fun ⟨s, hs', hl'⟩ => by have := h1 s hs'; omega)
      clear h1
      go_wp2_with fail
      go_loopw [26] (fun i wr => ∃ (j : Nat) (gs : List Nat), j ≤ l.length ∧ i = .int .i64 j ∧ TextsGo w l j gs wr) (fun i _ => l.length - (intOf i).toNat)
      case atStart => exact ⟨0, [], by omega, rfl, TextsGo.start w l⟩
      case round =>
        obtain ⟨j, gs, hj, rfl, hg⟩ := hrel
        have HG := Lib.hid hg
        clear hg
        by_cases hlt : j < l.length
        · obtain ⟨b, off, rfl, hb, hcl⟩ := HC.out (by omega)
          have hx0 := hcl j (.string (B l[j])) (by rw [List.getElem?_map, List.getElem?_eq_getElem hlt]; rfl)
          have hx : wr.cell? ⟨b, off + j, none⟩ = some (.string (B l[j])) := (HG.out.new.cell (p := ⟨b, off + j, none⟩) hb).trans hx0
          have hz := B_size l[j]
          have hlj := hs l[j] (List.getElem_mem _)
          have HCL := Lib.hid hcl
          clear hcl hx0
          cases hk : keysOf l[j] with
          | none =>
            have HK2 := Lib.hid hk
            clear hk
            go_wp2_with (go_at_call 103; refine (cp_readText_no l[j] _ (by omega) HK2.out).mono ?_; rintro e w2 ⟨rfl, h2⟩)
            go_ret2
            refine ⟨HG.out.new.trans h2, ?_⟩
            rw [if_neg H1.out, keysAll_none (List.getElem_mem _) HK2.out]
            rfl
          | some k =>
            have HK2 := Lib.hid hk
            clear hk
            go_wp2_with fail
            refine (cp_readText_yes l[j] _ (by omega) HK2.out).mono ?_
            rintro e w2 ⟨g, rfl, h2⟩
            have c1 := (HG.out.keep h2.2.2).cell hlt
            have f1 := (HG.out.keep h2.2.2).row.free j
            have HS := Lib.hid (HG.out.step h2.2.2 hlt HK2.out h2.1 h2.2.1)
            clear h2
            go_wp2_with fail
            go_roundw
            case rel => exact ⟨j + 1, gs ++ [g], by omega, by go_num, HS.out⟩
            case measure => simp [intOf]; omega
        · obtain rfl : j = l.length := by omega
          have HD := Lib.hid HG.out.done
          have HN := Lib.hid HG.out.new
          clear HG
          go_wp2_with fail
          go_ret2
          refine ⟨HN.out, ?_⟩
          obtain ⟨ks, h1, h2, h3⟩ := HD.out
          rw [if_neg H1.out, h1]
          exact ⟨_, gs, Nat.le_refl _, rfl, h2, h3⟩

end Go.Proofs.YthodoabppkeidaaGreatDoor
