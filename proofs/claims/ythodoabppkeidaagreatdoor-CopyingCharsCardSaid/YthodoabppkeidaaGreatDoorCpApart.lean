/-
  What costs are, plain: 0 exactly for equal texts; by way of a third text no cheaper; the same in both directions where a miss costs as much as an extra. No condition but those that each theorem names.
-/
import Derived.Test.YthodoabppkeidaaGreatDoorCpAwake
namespace Go.Proofs.YthodoabppkeidaaGreatDoor
open Go Go.RowKit
theorem md_tri (F : List Bytes) (m : Md) (x y z : Nat) : (mdC F m).sw x z ≤ (mdC F m).sw x y + (mdC F m).sw y z := by
  by_cases hxz : x = z
  · subst hxz; rw [mdC_self]; exact Nat.zero_le _
  by_cases hxy : x = y
  · subst hxy; rw [mdC_self]; omega
  by_cases hyz : y = z
  · subst hyz; rw [mdC_self]; omega
  rw [mdC_ne F m hxz, mdC_ne F m hxy, mdC_ne F m hyz]
  cases m with
  | morse => exact lc_tri sign_tri _ _ _
  | voice =>
    simp only [mdSw]
    repeat' split
    all_goals omega
  | data => simp [mdSw]
theorem md_symm (F : List Bytes) (m : Md) (hm : m ≠ .voice) (x y : Nat) : (mdC F m).sw x y = (mdC F m).sw y x := by
  by_cases hxy : x = y
  · subst hxy; rfl
  rw [mdC_ne F m hxy, mdC_ne F m (Ne.symm hxy)]
  cases m with
  | morse => exact lc_symm sign_symm rfl _ _
  | voice => exact absurd rfl hm
  | data => rfl
theorem md_same (F : List Bytes) (m : Md) (hm : m ≠ .voice) : (mdC F m).ms = (mdC F m).ex := by
  cases m with
  | morse => rfl
  | voice => exact absurd rfl hm
  | data => rfl
/-- An alignment that costs nothing is of equal lists, where different items cost something. -/
theorem Al.zero_on {α : Type} {c : Cs α} {P : α → Prop} (hp : ∀ x y, P x → P y → c.sw x y = 0 → x = y) (hm : 0 < c.ms) (he : 0 < c.ex) {s h : List α} {n : Nat} (a : Al c s h n) : (∀ x ∈ s, P x) → (∀ x ∈ h, P x) → n = 0 → s = h := by
  induction a with
  | nil => intro _ _ _; rfl
  | swap x y _ ih =>
    intro h1 h2 h0
    have e := hp x y (h1 x (List.mem_cons_self ..)) (h2 y (List.mem_cons_self ..)) (by omega)
    rw [e, ih (fun z hz => h1 z (List.mem_cons_of_mem _ hz)) (fun z hz => h2 z (List.mem_cons_of_mem _ hz)) (by omega)]
  | miss x _ _ => intro _ _ h0; omega
  | extra y _ _ => intro _ _ h0; omega
theorem md_zero (F : List Bytes) (m : Md) {a b : List Nat} (ha : ∀ k ∈ a, k < 37) (hb : ∀ k ∈ b, k < 37) : lc (mdC F m) a b = 0 ↔ a = b := by
  obtain ⟨h1, _, h2, _⟩ := md_small m
  constructor
  · intro h
    exact Al.zero_on (P := fun k => k < 37) (fun x y hx hy h => by
      by_cases e : x = y
      · exact e
      · rw [mdC_ne F m e] at h
        have := sw_pos (F := F) m hx hy e
        omega) (by rw [mdC_ms]; omega) (by rw [mdC_ex]; omega) (lc_al (c := mdC F m) a b) ha hb h
  · rintro rfl
    exact lc_self (mdC_self F m) a
theorem costC_zero (F : List Bytes) {mode : Int} {s t : Bytes} (he : hearE mode s t = 0) : costC F mode s t = 0 ↔ s = t := by
  obtain ⟨m, a, b, hm, ha, hb, _, _⟩ := hearE_ok he
  rw [costC_ok he hm ha hb, md_zero F m (keysOf_lt ha) (keysOf_lt hb)]
  constructor
  · rintro rfl
    exact keysOf_inj ha hb
  · rintro rfl
    rw [ha] at hb
    exact Option.some.inj hb
theorem costC_tri (F : List Bytes) {mode : Int} {s t u : Bytes} (h1 : hearE mode s t = 0) (h2 : hearE mode t u = 0) (h3 : hearE mode s u = 0) : costC F mode s u ≤ costC F mode s t + costC F mode t u := by
  obtain ⟨m, a, b, hm, ha, hb, _, _⟩ := hearE_ok h1
  obtain ⟨m', b', c, hm', hb', hc, _, _⟩ := hearE_ok h2
  rw [hm] at hm'
  obtain rfl := Option.some.inj hm'
  rw [costC_ok h1 hm ha hb, costC_ok h2 hm hb hc, costC_ok h3 hm ha hc]
  exact lc_tri (md_tri F m) a b c
theorem hearE_symm {mode : Int} {s t : Bytes} (h : hearE mode s t = 0) : hearE mode t s = 0 := by
  obtain ⟨m, a, b, hm, ha, hb, ls, lt⟩ := hearE_ok h
  exact hearE_mk hm hb ha lt ls
theorem costC_symm (F : List Bytes) {mode : Int} {s t : Bytes} (h : hearE mode s t = 0) (hv : mode ≠ 2) : costC F mode t s = costC F mode s t := by
  obtain ⟨m, a, b, hm, ha, hb, _, _⟩ := hearE_ok h
  have hmv : m ≠ .voice := by
    rintro rfl
    rcases mdOf_some hm with ⟨_, h⟩ | ⟨h, _⟩ | ⟨_, h⟩
    · cases h
    · exact hv h
    · cases h
  rw [costC_ok h hm ha hb, costC_ok (hearE_symm h) hm hb ha]
  exact lc_symm (md_symm F m hmv) (md_same F m hmv) b a
theorem costC_small (F : List Bytes) (mode : Int) (s t : Bytes) : costC F mode s t ≤ 1000 := by
  by_cases h : hearE mode s t = 0
  · obtain ⟨m, a, b, hm, ha, hb, ls, lt⟩ := hearE_ok h
    rw [costC_ok h hm ha hb]
    exact lc_small (by rw [keysOf_len ha]; exact ls) (by rw [keysOf_len hb]; exact lt)
  · rw [costC, if_neg h]; omega
/-- Cost at texts as values. -/
theorem cost_at (F : List Bytes) (mode : Int) (s t : ByteArray) (w : World) (hT : TabAt w F) (hs : s.size ≤ 1000000) (ht : t.size ≤ 1000000) :
    Calls Tryz.prog 24 #[.int .i64 mode, .string s, .string t] w fun e w' => e = .returned (.tuple #[.int .i64 (costC F mode (bs s) (bs t) : Nat), .int .i64 (hearE mode (bs s) (bs t))]) ∧ New w w' := by
  have h := cp_Cost F mode (bs s) (bs t) w hT (by rw [bs_size]; exact hs) (by rw [bs_size]; exact ht)
  rw [B_bs, B_bs] at h
  exact h
theorem bytes_eq (a b : Bytes) : ((B a).toList == (B b).toList) = decide (a = b) := by
  rw [Lib.toList_data, Lib.toList_data]
  show (a == b) = _
  by_cases h : a = b
  · subst h; simp
  · rw [beq_eq_false_iff_ne.2 h]; simp [h]
theorem str_ne {S T : ByteArray} (h : ¬ S = T) : (S.toList == T.toList) = false := by
  have h1 := bytes_eq (bs S) (bs T)
  rw [B_bs, B_bs] at h1
  rw [h1, decide_eq_false (fun e => h (bs_inj e))]
theorem law_brief (s : ByteArray) (w : World) : Calls Tryz.prog 11 #[.string s] w fun e w' => e = .returned (.bool (decide (s.size ≤ 200))) ∧ w = w' := by
  by_cases h : s.size ≤ 200
  · have i1 : (s.size : Int) ≤ 200 := by omega
    rw [decide_eq_true h]
    go_enter Tryz.func11, Tryz.ntmps11
    go_wp2_with fail
    go_ret
    exact ⟨by simp, rfl⟩
  · have i1 : ¬ (s.size : Int) ≤ 200 := by omega
    rw [decide_eq_false h]
    go_enter Tryz.func11, Tryz.ntmps11
    go_wp2_with fail
    go_ret
    exact ⟨by simp, rfl⟩
end Go.Proofs.YthodoabppkeidaaGreatDoor
