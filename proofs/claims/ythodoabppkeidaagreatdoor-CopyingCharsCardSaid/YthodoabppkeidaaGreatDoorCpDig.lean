/-
  figures, Digits, Number, CopyNumber of the program: numbers as they are sent and read, and what it costs to hear one for another one. Condition: the tables lie in memory, the library's of powers of ten among them.
-/
import Derived.Test.YthodoabppkeidaaGreatDoorCpMap
import Derived.Test.YthodoabppkeidaaGreatDoorCpNum
import Derived.Lib.LaidTab
import Derived.Lib.ItoaMem
import Derived.Lib.AppendIntMem
namespace Go.Proofs.YthodoabppkeidaaGreatDoor
open Go Go.RowKit Go.Shelf
open Go.Sort
/-- The library's table of powers of ten is as it lays it. -/
def HasPow (w : World) : Prop := Lib.TabIs Tryz.prog w "internal/strconv.uint64pow10" .u64 Lib.pow10Tab
theorem HasPow.keep {w w' : World} (h : HasPow w) (k : New w w') : HasPow w' := by
  unfold HasPow Lib.TabIs World.var? at h ⊢
  cases hg : Tryz.prog.globalNamed "internal/strconv.uint64pow10" with
  | none => rw [hg] at h; cases h
  | some g =>
    rw [hg] at h
    simp only [Option.bind_some] at h ⊢
    cases hb : w.heap[g]? with
    | none => rw [hb] at h; cases h
    | some o =>
      rw [hb] at h
      rw [heap_keep k hb]
      exact h
theorem cp_within (n lo hi : Int) (w : World) : Calls Tryz.prog 82 #[.int .i64 n, .int .i64 lo, .int .i64 hi] w fun e w' => e = .returned (.bool (decide (lo ≤ n ∧ n ≤ hi))) ∧ w = w' := by
  by_cases h1 : lo ≤ n <;> by_cases h2 : n ≤ hi
  all_goals
    go_enter Tryz.func82, Tryz.ntmps82
    go_wp2_with fail
    go_ret
    exact ⟨by simp [h1, h2], rfl⟩
theorem cp_morse_figures (w : World) : Calls Tryz.prog 163 #[.agg #[]] w fun e w' => e = .returned (.string (B (figL .morse))) ∧ New w w' := by
  go_enter Tryz.func163, Tryz.ntmps163
  go_wp2_with fail
  go_ret
  exact ⟨rfl, (New.refl w).alloc _⟩
theorem cp_voice_figures (w : World) : Calls Tryz.prog 169 #[.agg #[]] w fun e w' => e = .returned (.string (B (figL .voice))) ∧ New w w' := by
  go_enter Tryz.func169, Tryz.ntmps169
  go_wp2_with fail
  go_ret
  exact ⟨rfl, (New.refl w).alloc _⟩
theorem cp_data_figures (w : World) : Calls Tryz.prog 173 #[.agg #[]] w fun e w' => e = .returned (.string (B (figL .data))) ∧ New w w' := by
  go_enter Tryz.func173, Tryz.ntmps173
  go_wp2_with fail
  go_ret
  exact ⟨rfl, (New.refl w).alloc _⟩
def figF : Md → FuncId
  | .morse => 163
  | .voice => 169
  | .data => 173
theorem cp_figures (m : Md) (w : World) : Calls Tryz.prog (figF m) #[.agg #[]] w fun e w' => e = .returned (.string (B (figL m))) ∧ New w w' := by
  cases m
  · exact cp_morse_figures w
  · exact cp_voice_figures w
  · exact cp_data_figures w
theorem mth_figures (m : Md) (w : World) : (method 314 (medT m) (.agg #[]) "pileup/copying.figures").run Tryz.prog w = .ok (figF m, .agg #[]) w := by
  cases m <;> kernel_rfl
theorem ent_figures (m : Md) : ∀ args w, (callFunc (figF m) args).run Tryz.prog w = .ok (.enter (figF m) args) w := by
  cases m
  · exact enters_of Tryz.func163 (by kernel_rfl) rfl
  · exact enters_of Tryz.func169 (by kernel_rfl) rfl
  · exact enters_of Tryz.func173 (by kernel_rfl) rfl
theorem fig_ascii (m : Md) {c : UInt8} (h : 48 ≤ c.toNat ∧ c.toNat ≤ 57) : c.toNat < 128 ∧ (figOf m c).toNat < 128 := by
  have h1 : ∀ d : Fin 10, (figOf .morse (UInt8.ofNat (48 + d.val))).toNat < 128 ∧ (figOf .voice (UInt8.ofNat (48 + d.val))).toNat < 128 ∧ (figOf .data (UInt8.ofNat (48 + d.val))).toNat < 128 := by decide +kernel
  have h2 := h1 ⟨c.toNat - 48, by omega⟩
  have e : UInt8.ofNat (48 + (c.toNat - 48)) = c := by
    rw [show 48 + (c.toNat - 48) = c.toNat by omega]; simp
  simp only [e] at h2
  refine ⟨by omega, ?_⟩
  cases m
  · exact h2.1
  · exact h2.2.1
  · exact h2.2.2
/-- The closure of Digits at a digit. -/
theorem cp_dig (m : Md) (b : Nat) (c : UInt8) (w : World) (h : 48 ≤ c.toNat ∧ c.toNat ≤ 57) (hb : w.cell? ⟨b, 0, none⟩ = some (.string (B (figL m)))) :
    Calls Tryz.prog 84 #[.int .i32 c.toNat, .pointer (some ⟨b, 0, none⟩)] w fun e w' => e = .returned (.int .i32 (figOf m c).toNat) ∧ w = w' := by
  have hl := figL_len m
  have hi : c.toNat - 48 < (figL m).length := by omega
  have e1 : (figL m)[c.toNat - 48] = figOf m c := by rw [figOf, List.getD_eq_getElem?_getD, List.getElem?_eq_getElem hi]; rfl
  have hat := B_at (figL m) hi
  rw [e1] at hat
  have hsz : (B (figL m)).size = 10 := by rw [B_size, hl]
  obtain ⟨S, hS⟩ : ∃ S, B (figL m) = S := ⟨_, rfl⟩
  have hat2 : ∀ (h : c.toNat - 48 < S.size), S[c.toNat - 48]'h = figOf m c := by subst hS; exact fun h => hat
  rw [hS] at hb hsz
  clear hat e1 hS
  generalize figOf m c = z at *
  have hn : ((c.toNat : Int) - 48).toNat = c.toNat - 48 := by omega
  have h0 : 0 ≤ (c.toNat : Int) - 48 := by omega
  have h9 : (c.toNat : Int) - 48 < 10 := by omega
  have hz : z.toNat < 256 := z.toNat_lt
  go_enter Tryz.func84, Tryz.ntmps84
  go_wp2_with fail
  go_ret
  exact ⟨rfl, rfl⟩
/-- A number as it is sent, or none with an error. -/
def sentC (mode n : Int) : Bytes := match mdOf mode with
  | some m => if 0 ≤ n ∧ n ≤ 99999 then sentL m n.toNat else []
  | none => []
set_option maxRecDepth 100000 in
set_option maxHeartbeats 1000000 in
theorem cp_Digits (mode n : Int) (w : World) (hp : HasPow w) : Calls Tryz.prog 39 #[.int .i64 mode, .int .i64 n] w fun e w' =>
    e = .returned (.tuple #[.string (B (sentC mode n)), .int .i64 (digE mode n)]) ∧ New w w' := by
  have HP := Lib.hid hp
  clear hp
  cases hm : mdOf mode with
  | none =>
    have HM := Lib.hid (cp_mediumOf_no mode w hm)
    have e1 : digE mode n = 40 := by rw [digE, if_pos hm]
    have e2 : sentC mode n = [] := by rw [sentC, hm]
    rw [e1, e2]
    clear hm e1 e2
    go_enter Tryz.func39, Tryz.ntmps39
    go_wp2_with (go_at_call 55; refine HM.out.mono ?_; rintro e w' ⟨rfl, rfl⟩)
    go_ret2
    exact ⟨rfl, New.refl _⟩
  | some m =>
    have HM := Lib.hid (cp_mediumOf m mode w hm)
    rw [medV_eq] at HM
    have HW := Lib.hid (cp_within n 0 99999 w)
    by_cases hr : 0 ≤ n ∧ n ≤ 99999
    · have e1 : digE mode n = 0 := by rw [digE, if_neg (by rw [hm]; simp), if_pos hr]
      have e2 : sentC mode n = sentL m n.toNat := by rw [sentC, hm]; exact if_pos hr
      rw [e1, e2]
      rw [decide_eq_true hr] at HW
      have HFG := Lib.hid (cp_figures m)
      have hmt := mth_figures m
      have hen := ent_figures m
      have HDG := Lib.hid (dec_facts 4 n.toNat (by omega))
      have HD1 := Lib.hid (cp_dig m)
      have HIT := Lib.hid (fun w' (h : New w w') => Tryz.strconv_Itoa n (by omega) (by omega) w' (HP.out.keep h))
      have hit : Lib.itoa n = Lib.decDigits n.toNat := by
        obtain ⟨k, rfl⟩ : ∃ k : Nat, n = k := ⟨n.toNat, by omega⟩
        rw [Lib.itoa_nonneg, Int.toNat_natCast]
      rw [hit] at HIT
      have e3 : sentL m n.toNat = (Lib.decDigits n.toNat).map (figOf m) := rfl
      rw [e3]
      have HAS := Lib.hid (fun c (hc : c ∈ Lib.decDigits n.toNat) => fig_ascii m (HDG.out.1 c hc))
      clear hm e1 e2 e3 hr hit
      generalize Lib.decDigits n.toNat = ds at *
      generalize hF : figL m = FL at *
      generalize medT m = tm at *
      generalize figF m = fm at *
      go_enter Tryz.func39, Tryz.ntmps39
      go_wp2_with (first | (go_at_call 55; refine HM.out.mono ?_; rintro e w' ⟨rfl, rfl⟩) | (go_at_call 82; refine HW.out.mono ?_; rintro e w' ⟨rfl, rfl⟩))
      refine (HFG.out w).mono ?_
      rintro e w1 ⟨rfl, n1⟩
      have k2 := (New.refl w1).alloc (.cells #[.string (B FL)] 9)
      have r2 := RowIs.new w1 9 [.string (B FL)]
      have HR2 := Lib.hid r2
      have HN2 := Lib.hid (n1.trans k2)
      clear r2 n1 k2
      go_wp2_with fail
      generalize w1.alloc (.cells #[.string (B FL)] 9) = w2 at *
      refine (HIT.out w2 HN2.out).mono ?_
      rintro e w3 ⟨rfl, kk, os, rfl⟩
      have hN : New w2 (grow (w2.drewN kk) os) := Lib.below_grow w2.heap.size w2 (Nat.le_refl _) kk os
      have HN3 := Lib.hid hN
      clear hN
      generalize grow (w2.drewN kk) os = w3 at *
      have e0 : (⟨ds.toArray⟩ : ByteArray) = B ds := rfl
      rw [e0]
      go_wp2_with fail
      refine (cp_Map w1.heap.size (figOf m) ds w3 (by have := HDG.out.2.2.2; omega) HAS.out (fun W x hx hb => HD1.out w1.heap.size x W (HDG.out.1 x hx) (by exact ((HR2.out.keep HN3.out).keep hb).cell (i := 0) rfl))).mono ?_
      rintro e w4 ⟨rfl, n4⟩
      go_wp2_with fail
      go_ret2
      exact ⟨rfl, HN2.out.trans (HN3.out.trans n4)⟩
    · have e1 : digE mode n = 1 := by rw [digE, if_neg (by rw [hm]; simp), if_neg hr]
      have e2 : sentC mode n = [] := by rw [sentC, hm]; exact if_neg hr
      rw [e1, e2]
      rw [decide_eq_false hr] at HW
      clear hm e1 e2 hr
      generalize medT m = tm at *
      go_enter Tryz.func39, Tryz.ntmps39
      go_wp2_with (first | (go_at_call 55; refine HM.out.mono ?_; rintro e w' ⟨rfl, rfl⟩) | (go_at_call 82; refine HW.out.mono ?_; rintro e w' ⟨rfl, rfl⟩))
      go_ret2
      exact ⟨rfl, New.refl _⟩
end Go.Proofs.YthodoabppkeidaaGreatDoor
