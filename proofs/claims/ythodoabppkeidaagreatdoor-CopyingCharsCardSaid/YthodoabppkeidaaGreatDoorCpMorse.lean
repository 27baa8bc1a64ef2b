/-
  The swap of Morse codes of the program, and swapCost of characters in each mode. Condition: the tables lie in memory.
-/
import Derived.Test.YthodoabppkeidaaGreatDoorCpFillB
import Derived.Laws.IdiomStrings
import Derived.Deep.RegionWith
import Derived.Deep.DrawnRows
namespace Go.Proofs.YthodoabppkeidaaGreatDoor
open Go Go.RowKit
theorem bytesRow_at (s : Bytes) (cap : Nat) {i : Nat} {v : Value} (h : (bytesV s)[i]? = some v) : (bytesRow (B s) cap)[i]? = some v := by
  have hi : i < s.length := by
    have := (List.getElem?_eq_some_iff.1 h).1
    simpa [bytesV] using this
  have e : (B s).data.map (fun b => Value.int .u8 b.toNat) = (bytesV s).toArray := by
    simp [B, bytesV, byV]
  rw [bytesRow, e, Array.getElem?_append_left (by simpa [bytesV] using hi), List.getElem?_toArray]
  exact h
/-- '[]byte(s)': where the bytes lie. -/
def convO (s : Bytes) (cap : Nat) : Obj := .cells (bytesRow (B s) cap) 5 ((bytesRow (B s) cap).size, (bytesRow (B s) cap).size + 1)
theorem conv_run (s : Bytes) (w : World) : (convert 9 150 (.string (B s))).run Tryz.prog w = .ok (.slice (some ⟨w.heap.size, 0, none⟩) s.length (grownCap w s.length 0 5)) (w.drew.alloc (convO s (grownCap w s.length 0 5))) := by
  have h := run_bytes_of_string (P := Tryz.prog) w 9 150 5 (B s) Tryz.underlying9 Tryz.underlying150 Tryz.underlying5
  rw [B_size] at h
  exact h
theorem conv_at (s : Bytes) (w : World) (cap : Nat) (h1 : s.length ≤ cap) (h2 : cap ≤ 9223372036854775807) : SlAt (w.alloc (convO s cap)) (.slice (some ⟨w.heap.size, 0, none⟩) s.length cap) (bytesV s) := by
  have l1 : (bytesV s).length = s.length := by simp [bytesV]
  refine ⟨_, cap, by rw [l1], by rw [l1]; exact h1, h2, fun _ => ⟨w.heap.size, 0, rfl, by simp, fun i x hx => ?_⟩⟩
  have hb : (w.alloc (convO s cap)).heap[w.heap.size]? = some (convO s cap) := heap_alloc_new w _
  rw [Nat.zero_add]
  unfold World.cell?
  rw [hb]
  simp only [convO]
  exact bytesRow_at s cap hx

/-- The 36 cells of a swap of codes. -/
def zeros36 : List Value := [.int .i64 0, .int .i64 0, .int .i64 0, .int .i64 0, .int .i64 0, .int .i64 0, .int .i64 0, .int .i64 0, .int .i64 0, .int .i64 0, .int .i64 0, .int .i64 0, .int .i64 0, .int .i64 0, .int .i64 0, .int .i64 0, .int .i64 0, .int .i64 0, .int .i64 0, .int .i64 0, .int .i64 0, .int .i64 0, .int .i64 0, .int .i64 0, .int .i64 0, .int .i64 0, .int .i64 0, .int .i64 0, .int .i64 0, .int .i64 0, .int .i64 0, .int .i64 0, .int .i64 0, .int .i64 0, .int .i64 0, .int .i64 0]
/-- A new slice lies elsewhere than in an old block. -/
theorem conv_off (s : Bytes) (w w' : World) (cap g : Nat) (h1 : s.length ≤ cap) (h2 : cap ≤ 9223372036854775807) (hg : g < w.heap.size) (k : New (w.alloc (convO s cap)) w') : SlOff w' g (.slice (some ⟨w.heap.size, 0, none⟩) s.length cap) (bytesV s) := by
  have h := (conv_at s w cap h1 h2).keep k
  have l1 : (bytesV s).length = s.length := by simp [bytesV]
  obtain ⟨A, c, e, c1, c2, c3⟩ := h
  refine ⟨A, c, e, c1, c2, fun hn => ?_⟩
  obtain ⟨b, off, e2, hb, hc⟩ := c3 hn
  subst e2
  injection e with e3 e4 e5
  injection e3 with e3
  injection e3 with e6 e7
  exact ⟨b, off, rfl, ⟨by omega, hb⟩, hc⟩
theorem conv_new (s : Bytes) (c : Nat) (w : World) : New w (w.alloc (convO s c)) := (New.refl w).alloc _
theorem prod36 {a b : Nat} (ha : a ≤ 5) (hb : b ≤ 5) : (a + 1) * (b + 1) ≤ 36 := Nat.mul_le_mul (show a + 1 ≤ 6 by omega) (show b + 1 ≤ 6 by omega)
theorem swap_xy (g : Nat) (W : World) (sx sy : Bytes) (hr : RowIs W g 207 zeros36) (hg : g < W.heap.size) (lx : sx.length ≤ 5) (ly : sy.length ≤ 5) (c1 c2 : Nat) (h1 : sx.length ≤ c1) (h2 : c1 ≤ maxLen) (h3 : sy.length ≤ c2) (h4 : c2 ≤ maxLen) :
    Calls Tryz.prog 166 #[.slice (some ⟨g, 0, none⟩) 36 36, .slice (some ⟨W.heap.size, 0, none⟩) sx.length c1, .slice (some ⟨W.heap.size + 1, 0, none⟩) sy.length c2, .iface 211 (.agg #[])]
      ((W.alloc (convO sx c1)).alloc (convO sy c2)).drew.drew.drew fun e w' => e = .returned (.int .i64 (lc signC sx sy : Nat)) ∧ Upd g W w' := by
  unfold maxLen at h2 h4
  have k1 := conv_new sx c1 W
  have k2 := conv_new sy c2 (W.alloc (convO sx c1))
  have k3 : New ((W.alloc (convO sx c1)).alloc (convO sy c2)) ((W.alloc (convO sx c1)).alloc (convO sy c2)).drew.drew.drew := (New.refl _).drew.drew.drew
  have kk := (k1.trans k2).trans k3
  have e1 : (W.alloc (convO sx c1)).heap.size = W.heap.size + 1 := by simp
  have a1 := conv_off sx W _ c1 g h1 h2 hg (k2.trans k3)
  have a2 := conv_off sy (W.alloc (convO sx c1)) _ c2 g h3 h4 (by omega) k3
  rw [e1] at a2
  refine (cp_fill_byte g _ 36 36 sx sy _ _ zeros36 _ (hr.keep kk) rfl (Nat.le_refl _) (by omega) (prod36 lx ly) a1 a2).mono ?_
  rintro e w' ⟨he, hu, _⟩
  exact ⟨he, (Upd.of kk).trans hu⟩
theorem swap_yx (g : Nat) (W : World) (sx sy : Bytes) (hr : RowIs W g 207 zeros36) (hg : g < W.heap.size) (lx : sx.length ≤ 5) (ly : sy.length ≤ 5) (c1 c2 : Nat) (h1 : sy.length ≤ c1) (h2 : c1 ≤ maxLen) (h3 : sx.length ≤ c2) (h4 : c2 ≤ maxLen) :
    Calls Tryz.prog 166 #[.slice (some ⟨g, 0, none⟩) 36 36, .slice (some ⟨W.heap.size + 1, 0, none⟩) sx.length c2, .slice (some ⟨W.heap.size, 0, none⟩) sy.length c1, .iface 211 (.agg #[])]
      ((W.alloc (convO sy c1)).alloc (convO sx c2)).drew.drew.drew fun e w' => e = .returned (.int .i64 (lc signC sx sy : Nat)) ∧ Upd g W w' := by
  unfold maxLen at h2 h4
  have k1 := conv_new sy c1 W
  have k2 := conv_new sx c2 (W.alloc (convO sy c1))
  have k3 : New ((W.alloc (convO sy c1)).alloc (convO sx c2)) ((W.alloc (convO sy c1)).alloc (convO sx c2)).drew.drew.drew := (New.refl _).drew.drew.drew
  have kk := (k1.trans k2).trans k3
  have e1 : (W.alloc (convO sy c1)).heap.size = W.heap.size + 1 := by simp
  have a1 := conv_off sy W _ c1 g h1 h2 hg (k2.trans k3)
  have a2 := conv_off sx (W.alloc (convO sy c1)) _ c2 g h3 h4 (by omega) k3
  rw [e1] at a2
  refine (cp_fill_byte g _ 36 36 sx sy _ _ zeros36 _ (hr.keep kk) rfl (Nat.le_refl _) (by omega) (prod36 lx ly) a2 a1).mono ?_
  rintro e w' ⟨he, hu, _⟩
  exact ⟨he, (Upd.of kk).trans hu⟩
theorem cell_alloc_some {w : World} {a : Addr} {v : Value} (o : Obj) (h : w.cell? a = some v) : (w.alloc o).cell? a = some v := by
  have hlt : a.block < w.heap.size := by
    rcases Nat.lt_or_ge a.block w.heap.size with h' | h'
    · exact h'
    · simp [World.cell?, Array.getElem?_eq_none h'] at h
  exact ((New.refl w).alloc o).cell hlt |>.trans h
set_option maxRecDepth 100000 in
set_option maxHeartbeats 1000000 in
theorem cp_morse_swap (F : List Bytes) (x y : Nat) (hx : x < 37) (hy : y < 37) (w : World) (hT : TabAt w F) :
    Calls Tryz.prog 165 #[.agg #[], .int .i64 x, .int .i64 y] w fun e w' => e = .returned (.int .i64 (mdSw F .morse x y : Nat)) ∧ New w w' := by
  have HN := Lib.hid (((New.refl w).alloc (.cells #[] 131)).alloc (.cells zeros36.toArray 207))
  have HR := Lib.hid (RowIs.new (w.alloc (.cells #[] 131)) 207 zeros36)
  have HT := Lib.hid (hT.keep HN.out)
  have hsz : w.heap.size + 1 < ((w.alloc (.cells #[] 131)).alloc (.cells zeros36.toArray 207)).heap.size := by simp
  have hg : (w.alloc (.cells #[] 131)).heap.size = w.heap.size + 1 := by simp
  rw [hg] at HR
  clear hT hg
  unfold zeros36 at HN HR HT hsz
  go_enter Tryz.func165, Tryz.ntmps165
  go_wp2_with fail
  generalize (w.alloc (.cells #[] 131)).alloc (.cells #[.int .i64 0, .int .i64 0, .int .i64 0, .int .i64 0, .int .i64 0, .int .i64 0, .int .i64 0, .int .i64 0, .int .i64 0, .int .i64 0, .int .i64 0, .int .i64 0, .int .i64 0, .int .i64 0, .int .i64 0, .int .i64 0, .int .i64 0, .int .i64 0, .int .i64 0, .int .i64 0, .int .i64 0, .int .i64 0, .int .i64 0, .int .i64 0, .int .i64 0, .int .i64 0, .int .i64 0, .int .i64 0, .int .i64 0, .int .i64 0, .int .i64 0, .int .i64 0, .int .i64 0, .int .i64 0, .int .i64 0, .int .i64 0] 207) = W at *
  generalize hgg : w.heap.size + 1 = g at *
  have hcx := HT.out.code hx
  have hcy := HT.out.code hy
  have hcx1 := fun o => (cell_alloc_some o hcx)
  have hcy1 := fun o => (cell_alloc_some o hcy)
  have kx := conv_run (codeOf x)
  have ky := conv_run (codeOf y)
  have hx1 : (0 : Int) ≤ (x : Int) := by omega
  have hx2 : (x : Int) < 37 := by omega
  have hy1 : (0 : Int) ≤ (y : Int) := by omega
  have hy2 : (y : Int) < 37 := by omega
  unfold strV at hcx hcy hcx1 hcy1
  have lx := code_len hx
  have ly := code_len hy
  have HS : Hid (mdSw F .morse x y = lc signC (codeOf x) (codeOf y)) := Lib.hid rfl
  generalize codeOf x = sx at *
  generalize codeOf y = sy at *
  have C1 := swap_xy g W sx sy HR.out hsz (by assumption) (by assumption)
  have C2 := swap_yx g W sx sy HR.out hsz (by assumption) (by assumption)
  have D1 := Lib.hid C1
  have D2 := Lib.hid C2
  clear C1 C2
  go_region_with (first | ((with_reducible refine (D1.out _ _ (grownCap_ge _ _ _ _) (grownCap_le_maxLen _ _ _ _ (by unfold maxLen; omega)) (grownCap_ge _ _ _ _) (grownCap_le_maxLen _ _ _ _ (by unfold maxLen; omega))).mono ?_); rintro e w' ⟨rfl, hn⟩) | ((with_reducible refine (D2.out _ _ (grownCap_ge _ _ _ _) (grownCap_le_maxLen _ _ _ _ (by unfold maxLen; omega)) (grownCap_ge _ _ _ _) (grownCap_le_maxLen _ _ _ _ (by unfold maxLen; omega))).mono ?_); rintro e w' ⟨rfl, hn⟩))
  all_goals
    have hU : New w w' := Upd.new (g := g) HN.out (by omega) (by assumption)
    clear hcx hcy hcx1 hcy1 kx ky
    go_wp2_with fail
    go_ret
    exact ⟨by rw [HS.out]; rfl, hU⟩

/-- The type, and the methods, of a medium. -/
def medT : Md → TypeId
  | .morse => 131
  | .voice => 132
  | .data => 133
theorem medV_eq (m : Md) : medV m = .iface (medT m) (.agg #[]) := by cases m <;> rfl
def swapF : Md → FuncId
  | .morse => 165
  | .voice => 171
  | .data => 175
def missF : Md → FuncId
  | .morse => 164
  | .voice => 170
  | .data => 174
def extraF : Md → FuncId
  | .morse => 162
  | .voice => 168
  | .data => 172
theorem mth_swap (m : Md) (w : World) : (method 314 (medT m) (.agg #[]) "pileup/copying.swap").run Tryz.prog w = .ok (swapF m, .agg #[]) w := by
  cases m
  · exact mth_morse_swap w
  · exact mth_voice_swap w
  · exact mth_data_swap w
theorem mth_miss (m : Md) (w : World) : (method 314 (medT m) (.agg #[]) "pileup/copying.miss").run Tryz.prog w = .ok (missF m, .agg #[]) w := by
  cases m
  · exact mth_morse_miss w
  · exact mth_voice_miss w
  · exact mth_data_miss w
theorem mth_extra (m : Md) (w : World) : (method 314 (medT m) (.agg #[]) "pileup/copying.extra").run Tryz.prog w = .ok (extraF m, .agg #[]) w := by
  cases m
  · exact mth_morse_extra w
  · exact mth_voice_extra w
  · exact mth_data_extra w
theorem ent_swap (m : Md) : ∀ args w, (callFunc (swapF m) args).run Tryz.prog w = .ok (.enter (swapF m) args) w := by
  cases m
  · exact enters_of Tryz.func165 (by kernel_rfl) rfl
  · exact enters_of Tryz.func171 (by kernel_rfl) rfl
  · exact enters_of Tryz.func175 (by kernel_rfl) rfl
theorem ent_miss (m : Md) : ∀ args w, (callFunc (missF m) args).run Tryz.prog w = .ok (.enter (missF m) args) w := by
  cases m
  · exact enters_of Tryz.func164 (by kernel_rfl) rfl
  · exact enters_of Tryz.func170 (by kernel_rfl) rfl
  · exact enters_of Tryz.func174 (by kernel_rfl) rfl
theorem ent_extra (m : Md) : ∀ args w, (callFunc (extraF m) args).run Tryz.prog w = .ok (.enter (extraF m) args) w := by
  cases m
  · exact enters_of Tryz.func162 (by kernel_rfl) rfl
  · exact enters_of Tryz.func168 (by kernel_rfl) rfl
  · exact enters_of Tryz.func172 (by kernel_rfl) rfl
theorem cp_miss (m : Md) (w : World) : Calls Tryz.prog (missF m) #[.agg #[]] w fun e w' => e = .returned (.int .i64 (mdMs m : Nat)) ∧ New w w' := by
  cases m
  · exact cp_morse_miss w
  · exact cp_voice_miss w
  · exact cp_data_miss w
theorem cp_extra (m : Md) (w : World) : Calls Tryz.prog (extraF m) #[.agg #[]] w fun e w' => e = .returned (.int .i64 (mdEx m : Nat)) ∧ New w w' := by
  cases m
  · exact cp_morse_extra w
  · exact cp_voice_extra w
  · exact cp_data_extra w
theorem cp_swap (F : List Bytes) (m : Md) (x y : Nat) (hx : x < 37) (hy : y < 37) (w : World) (hT : TabAt w F) :
    Calls Tryz.prog (swapF m) #[.agg #[], .int .i64 x, .int .i64 y] w fun e w' => e = .returned (.int .i64 (mdSw F m x y : Nat)) ∧ New w w' := by
  cases m
  · exact cp_morse_swap F x y hx hy w hT
  · exact cp_voice_swap F x y hx hy w hT
  · exact cp_data_swap x y w
set_option maxRecDepth 100000 in
set_option maxHeartbeats 400000 in
/-- swapCost of characters. -/
theorem cp_swapCost (F : List Bytes) (m : Md) (x y : Nat) (hx : x < 37) (hy : y < 37) (w : World) (hT : TabAt w F) :
    Calls Tryz.prog 56 #[medV m, .int .i64 x, .int .i64 y] w fun e w' => e = .returned (.int .i64 ((mdC F m).sw x y : Nat)) ∧ New w w' := by
  rw [medV_eq]
  by_cases h : x = y
  · subst h
    rw [mdC_self]
    have h1 : (((x : Nat) : Int) == ((x : Nat) : Int)) = true := by simp
    clear hT
    go_enter Tryz.func56, Tryz.ntmps56
    go_wp2_with fail
    go_ret
    exact ⟨rfl, New.refl w⟩
  · rw [mdC_ne F m h]
    have h1 : (((x : Nat) : Int) == ((y : Nat) : Int)) = false := by
      rw [beq_eq_false_iff_ne]
      omega
    have hm := mth_swap m
    have he := ent_swap m
    have HC := Lib.hid (cp_swap F m x y hx hy w hT)
    clear h hT
    generalize medT m = tm at *
    generalize swapF m = fm at *
    generalize mdSw F m x y = z at *
    go_enter Tryz.func56, Tryz.ntmps56
    go_wp2_with fail
    refine HC.out.mono ?_
    rintro e w' ⟨rfl, h2⟩
    go_wp2_with fail
    go_ret
    exact ⟨rfl, h2⟩

end Go.Proofs.YthodoabppkeidaaGreatDoor
