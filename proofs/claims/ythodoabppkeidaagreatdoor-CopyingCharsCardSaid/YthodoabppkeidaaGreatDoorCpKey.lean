/-
  The two tables of package copying in a world (the codes as the program lays them; the families are whatever the variable holds), and the calls on single characters: readKey, familyOf, mediumOf. No condition but that the tables lie in memory.
-/
import Derived.Test.YthodoabppkeidaaGreatDoorProg
import Derived.Test.YthodoabppkeidaaGreatDoorBase
import Derived.Test.YthodoabppkeidaaGreatDoorCpChars
import Derived.Test.YthodoabppkeidaaGreatDoorShelf
import Derived.Laws.Rows
import Derived.Deep.RegionHeld3
import Derived.Outline
namespace Go.Proofs.YthodoabppkeidaaGreatDoor
open Go Go.RowKit
def strV (b : Bytes) : Value := .string (B b)
/-- The tables: the codes, and some seven texts. -/
def TabAt (w : World) (F : List Bytes) : Prop :=
  (∃ t, w.heap[0]? = some (.cells (codesL.map strV).toArray t (0, 0))) ∧ (∃ t, w.heap[1]? = some (.cells (F.map strV).toArray t (0, 0))) ∧ F.length = 7 ∧ ∀ f ∈ F, f.length ≤ 9223372036854775807
theorem heap_keep {w w' : World} (k : New w w') {g : Nat} {o : Obj} (h : w.heap[g]? = some o) : w'.heap[g]? = some o := (k.out.block g (Array.getElem?_eq_some_iff.1 h).1).trans h
theorem TabAt.keep {w w' : World} {F : List Bytes} (h : TabAt w F) (k : New w w') : TabAt w' F := by
  obtain ⟨⟨t, h1⟩, ⟨u, h2⟩, h3⟩ := h
  exact ⟨⟨t, heap_keep k h1⟩, ⟨u, heap_keep k h2⟩, h3⟩
theorem TabAt.code {w : World} {F : List Bytes} (h : TabAt w F) {k : Nat} (hk : k < 37) : w.cell? ⟨0, k, none⟩ = some (strV (codeOf k)) := by
  obtain ⟨⟨t, h1⟩, _⟩ := h
  rw [cell_of_row w _ k _ _ _ h1]
  rw [List.getElem?_toArray, List.getElem?_map, codes_get hk]
  rfl
theorem TabAt.lt {w : World} {F : List Bytes} (h : TabAt w F) : 0 < w.heap.size ∧ 1 < w.heap.size := by
  obtain ⟨⟨t, h1⟩, ⟨u, h2⟩, _⟩ := h
  exact ⟨(Array.getElem?_eq_some_iff.1 h1).1, (Array.getElem?_eq_some_iff.1 h2).1⟩
theorem IndexB (s : Bytes) (c : UInt8) (w : World) :
    Calls Tryz.prog 87 #[.string (B s), .int .u8 c.toNat] w fun e w' => e = .returned (.int .i64 (Lib.indexByte s c)) ∧ w = w' := by
  refine (Tryz.strings_IndexByte (B s) c.toNat w).mono ?_
  rintro e w' ⟨rfl, rfl⟩
  refine ⟨ret_int ?_, rfl⟩
  have e2 : ((c.toNat : Int).toNat.toUInt8) = c := by simp
  rw [e2, show (B s).data.toList = s from bs_B s]
theorem charsV : (⟨#[65, 66, 67, 68, 69, 70, 71, 72, 73, 74, 75, 76, 77, 78, 79, 80, 81, 82, 83, 84, 85, 86, 87, 88, 89, 90, 48, 49, 50, 51, 52, 53, 54, 55, 56, 57, 47]⟩ : ByteArray) = B chars := rfl

theorem index_chars (b : UInt8) (w : World) :
    Calls Tryz.prog 87 #[.string ⟨#[65, 66, 67, 68, 69, 70, 71, 72, 73, 74, 75, 76, 77, 78, 79, 80, 81, 82, 83, 84, 85, 86, 87, 88, 89, 90, 48, 49, 50, 51, 52, 53, 54, 55, 56, 57, 47]⟩, .int .u8 b.toNat] w fun e w' =>
      e = .returned (.int .i64 (if keyOf b < 37 then (keyOf b : Int) else -1)) ∧ w = w' := by
  have h := IndexB chars b w
  rw [index_key] at h
  exact h
/-- readKey: the key of a text that is one character. -/
def keyV (b : UInt8) : Value := if keyOf b < 37 then .tuple #[.int .i64 (keyOf b), .int .i64 0] else .tuple #[.int .i64 0, .int .i64 41]
theorem cp_readKey_one (b : UInt8) (w : World) : Calls Tryz.prog 50 #[.string (B [b])] w fun e w' => e = .returned (keyV b) ∧ w = w' := by
  have hz : (B [b]).size = 1 := rfl
  have h0 : (B [b])[0]'(by rw [hz]; omega) = b := rfl
  unfold keyV
  by_cases hk : keyOf b < 37
  · rw [if_pos hk]
    go_enter Tryz.func50, Tryz.ntmps50
    go_wp2_with fail
    refine (index_chars b _).mono ?_
    rintro e w' ⟨rfl, rfl⟩
    rw [if_pos hk]
    go_wp2_with fail
    go_ret2
    exact ⟨rfl, rfl⟩
  · rw [if_neg hk]
    go_enter Tryz.func50, Tryz.ntmps50
    go_wp2_with fail
    refine (index_chars b _).mono ?_
    rintro e w' ⟨rfl, rfl⟩
    rw [if_neg hk]
    go_wp2_with fail
    go_ret2
    exact ⟨rfl, rfl⟩
theorem cp_readKey_bad (s : ByteArray) (w : World) (hs : s.size ≠ 1) (_ : s.size ≤ 9223372036854775807) :
    Calls Tryz.prog 50 #[.string s] w fun e w' => e = .returned (.tuple #[.int .i64 0, .int .i64 41]) ∧ w = w' := by
  have h1 : ((s.size : Int) == 1) = false := by rw [beq_eq_false_iff_ne]; omega
  have h2 : ((s.size : Int) != 1) = true := by rw [bne_iff_ne]; omega
  go_enter Tryz.func50, Tryz.ntmps50
  go_wp2_with fail
  go_ret2
  exact ⟨rfl, rfl⟩
theorem cp_mediumOf_no (n : Int) (w : World) (h : mdOf n = none) : Calls Tryz.prog 55 #[.int .i64 n] w fun e w' => e = .returned (.tuple #[.nilIface, .int .i64 40]) ∧ w = w' := by
  have hh := mdOf_none h
  have h1 : (n == 1) = false := by rw [beq_eq_false_iff_ne]; omega
  have h2 : (n == 2) = false := by rw [beq_eq_false_iff_ne]; omega
  have h3 : (n == 3) = false := by rw [beq_eq_false_iff_ne]; omega
  clear hh h
  go_enter Tryz.func55, Tryz.ntmps55
  go_wp2_with fail
  go_ret2
  exact ⟨rfl, rfl⟩
/-- A medium as a value. -/
def medV : Md → Value
  | .morse => .iface 131 (.agg #[])
  | .voice => .iface 132 (.agg #[])
  | .data => .iface 133 (.agg #[])
theorem cp_mediumOf (m : Md) (n : Int) (w : World) (h : mdOf n = some m) : Calls Tryz.prog 55 #[.int .i64 n] w fun e w' => e = .returned (.tuple #[medV m, .int .i64 0]) ∧ w = w' := by
  rcases mdOf_some h with ⟨rfl, rfl⟩ | ⟨rfl, rfl⟩ | ⟨rfl, rfl⟩
  · go_enter Tryz.func55, Tryz.ntmps55
    go_wp2_with fail
    go_ret2
    exact ⟨rfl, rfl⟩
  · go_enter Tryz.func55, Tryz.ntmps55
    go_wp2_with fail
    go_ret2
    exact ⟨rfl, rfl⟩
  · go_enter Tryz.func55, Tryz.ntmps55
    go_wp2_with fail
    go_ret2
    exact ⟨rfl, rfl⟩

theorem fam_drop {b : UInt8} {F : List Bytes} {j : Nat} (h : j < F.length) : famGo b (F.drop j) = if b ∈ F[j] then 0 else famGo b (F.drop (j + 1)) + 1 := by
  rw [List.drop_eq_getElem_cons h, famGo]
theorem run_index_agg {P : Program} {t e : TypeId} {n : Nat} (h : P.underlying t = some (.array n e)) (cs : Array Value) (j : Nat) (hj : j < n) (hs : ∀ w, (sizeOf e).run P w = .ok 1 w) (ha : ∀ w, (isAgg e).run P w = .ok false w) (v : Value) (hv : cs[j]? = some v) (w : World) :
    (Instr.index t (.agg cs) (.int .i64 j)).run P w = .ok v w := by
  simp [Instr.index, run_underlying h, asIntOf, go_sem, hj, hs, ha, hv]
theorem char_index {k : Nat} (hk : k < 37) (w : World) : (Instr.index 9 (.string ⟨#[65, 66, 67, 68, 69, 70, 71, 72, 73, 74, 75, 76, 77, 78, 79, 80, 81, 82, 83, 84, 85, 86, 87, 88, 89, 90, 48, 49, 50, 51, 52, 53, 54, 55, 56, 57, 47]⟩) (.int .i64 k)).run Tryz.prog w = .ok (.int .u8 (charOf k).toNat) w := by
  show (Instr.index 9 (.string (B chars)) (.int .i64 k)).run Tryz.prog w = _
  have hs : (B chars).size = 37 := rfl
  rw [run_index_string w _ _ _ _ Tryz.underlying9, dif_pos (by omega)]
  have e : (B chars)[((k : Int)).toNat]'(by rw [hs]; omega) = charOf k := by
    have h2 := bs_get (B chars) k (by omega)
    rw [bs_B, chars_get hk] at h2
    simpa using (Option.some.inj h2).symm
  rw [e]
set_option maxRecDepth 100000 in
set_option maxHeartbeats 400000 in
theorem cp_familyOf (F : List Bytes) (k : Nat) (hk : k < 37) (w : World) (hT : TabAt w F) : Calls Tryz.prog 54 #[.int .i64 k] w fun e w' => e = .returned (.int .i64 (famOf F k)) ∧ w = w' := by
  obtain ⟨_, ⟨t, hF⟩, h7, hlen⟩ := hT
  have hch := char_index hk
  have hsz : (Tryz.prog.info? 129).map (·.size) = some (F.map strV).toArray.size := by
    rw [List.size_toArray, List.length_map, h7]
    kernel_rfl
  have HF := Lib.hid hF
  have H7 := Lib.hid h7
  have HS := Lib.hid hsz
  clear hF h7 hsz hlen
  go_enter Tryz.func54, Tryz.ntmps54
  go_wp2_with (refine wpList_load_row rfl 129 (.global 1) rfl 1 rfl t (F.map strV).toArray (0, 0) _ HF.out Tryz.underlying129 rfl HS.out ?_)
  go_loop [6] (fun i => ∃ j : Nat, j ≤ 7 ∧ i = .int .i64 j ∧ famOf F k = j + famGo (charOf k) (F.drop j)) (fun i => 7 - (intOf i).toNat)
  case atStart => exact ⟨0, by omega, rfl, by simp [famOf]⟩
  case round =>
    obtain ⟨j, hj, rfl, hf⟩ := hrel
    have HFm := Lib.hid hf
    clear hf
    by_cases hlt : j < 7
    · have hl : j < F.length := by rw [H7.out]; exact hlt
      have hix : (Instr.index 129 (.agg (F.map strV).toArray) (.int .i64 j)).run Tryz.prog w = .ok (.string (B F[j])) w :=
        run_index_agg Tryz.underlying129 _ j (by omega) Tryz.sizeOf9 Tryz.isAgg9 _ (by rw [List.getElem?_toArray, List.getElem?_map, List.getElem?_eq_getElem hl]; rfl) w
      by_cases hm : charOf k ∈ F[j]
      · have hp : 0 ≤ Lib.indexByte F[j] (charOf k) := (indexByte_mem _ _).2 hm
        go_wp2_with (go_at_call 87; refine (IndexB F[j] (charOf k) _).mono ?_; rintro e w' ⟨rfl, rfl⟩)
        go_ret
        refine ⟨ret_int ?_, rfl⟩
        rw [HFm.out, fam_drop hl, if_pos hm]
        rfl
      · have hp : ¬ 0 ≤ Lib.indexByte F[j] (charOf k) := fun h => hm ((indexByte_mem _ _).1 h)
        go_wp2_with (go_at_call 87; refine (IndexB F[j] (charOf k) _).mono ?_; rintro e w' ⟨rfl, rfl⟩)
        go_round
        case rel =>
          refine ⟨j + 1, by omega, by go_num, ?_⟩
          rw [HFm.out, fam_drop hl, if_neg hm]
          omega
        case measure => simp [intOf]; omega
    · go_wp2
      go_ret
      refine ⟨ret_int ?_, rfl⟩
      obtain rfl : j = 7 := by omega
      rw [HFm.out, List.drop_eq_nil_of_le (by rw [H7.out]; exact Nat.le_refl _)]
      rfl

end Go.Proofs.YthodoabppkeidaaGreatDoor
