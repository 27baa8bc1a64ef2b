/-
  CheckAlign of the program: what an alignment of anyone costs. Condition: the tables lie in memory; texts of at most 1000000 bytes.
-/
import Derived.Test.YthodoabppkeidaaDoorCpAlign
import Derived.Test.YthodoabppkeidaaDoorCpCkP
import Derived.Shelf.SlicesQ.Contains
import Derived.Laws.StructEq
namespace Go.Proofs.YthodoabppkeidaaDoor
open Go Go.RowKit Go.Shelf Go.Lib
def stK (t : StI) : List Value := [.int .i64 t.1, .int .i64 t.2.1, .int .i64 t.2.2]
theorem stK_stI (t : Stp) : stK (stI t) = stC t := rfl
/-- Steps of anyone in memory. -/
def StiAt (w : World) (v : Value) (l : List StI) : Prop :=
  (v = .slice none 0 0 ∧ l = []) ∨ ∃ b off c, v = .slice (some ⟨b, off, none⟩) l.length c ∧ l.length ≤ c ∧ c ≤ 9223372036854775807 ∧ (0 < l.length → b < w.heap.size) ∧ ∀ j t, l[j]? = some t → ∀ r u, (stK t)[r]? = some u → w.cell? ⟨b, off + j * 3 + r, none⟩ = some u
theorem StiAt.keep {w w' : World} {v : Value} {l : List StI} (h : StiAt w v l) (k : New w w') : StiAt w' v l := by
  rcases h with h | ⟨b, off, c, h1, h2, h3, h4, h5⟩
  · exact .inl h
  · refine .inr ⟨b, off, c, h1, h2, h3, fun h => Nat.lt_of_lt_of_le (h4 h) k.size, fun j t hj r u hu => ?_⟩
    have hi := (List.getElem?_eq_some_iff.1 hj).1
    exact (k.cell (p := ⟨b, off + j * 3 + r, none⟩) (h4 (by omega))).trans (h5 j t hj r u hu)
theorem StiAt.form {w : World} {v : Value} {l : List StI} (h : StiAt w v l) : ∃ A c, v = .slice A l.length c ∧ l.length ≤ c ∧ c ≤ 9223372036854775807 := by
  rcases h with ⟨rfl, rfl⟩ | ⟨b, off, c, h1, h2, h3, -⟩
  · exact ⟨none, 0, rfl, Nat.le_refl _, by omega⟩
  · exact ⟨_, c, h1, h2, h3⟩
theorem StiAt.cells {w : World} {A : Option Addr} {n c : Nat} {l : List StI} (h : StiAt w (.slice A n c) l) (h0 : 0 < l.length) : ∃ b off, A = some ⟨b, off, none⟩ ∧ n = l.length ∧ b < w.heap.size ∧ ∀ j t, l[j]? = some t →
    w.cell? ⟨b, off + j * 3, none⟩ = some (.int .i64 t.1) ∧ w.cell? ⟨b, off + j * 3 + 1, none⟩ = some (.int .i64 t.2.1) ∧ w.cell? ⟨b, off + j * 3 + 2, none⟩ = some (.int .i64 t.2.2) := by
  rcases h with ⟨_, h2⟩ | ⟨b, off, c', h1, _, _, h4, h5⟩
  · subst h2; simp at h0
  · simp only [Value.slice.injEq] at h1
    exact ⟨b, off, h1.1, h1.2.1, h4 h0, fun j t hj => ⟨h5 j t hj 0 _ rfl, h5 j t hj 1 _ rfl, h5 j t hj 2 _ rfl⟩⟩
theorem StsAt.sti {w : World} {b : Nat} {v : Value} {l : List Stp} (h : StsAt w b v l) : StiAt w v (l.map stI) := by
  have hown : w.ownsRow b 51 3 v l.length (stsC l) := h
  rcases h.2 with ⟨rfl, hz⟩ | ⟨g, cap, cur, rfl, hb, hh, h1, h2, h3, h4⟩
  · rw [List.length_eq_zero_iff] at hz
    subst hz
    exact .inl ⟨rfl, rfl⟩
  · unfold maxLen at h2
    refine .inr ⟨g, 0, cap, by rw [List.length_map], by rw [List.length_map]; exact h1, h2, fun _ => (Array.getElem?_eq_some_iff.1 hh).1, fun j t hj r u hu => ?_⟩
    rw [List.getElem?_map, Option.map_eq_some_iff] at hj
    obtain ⟨t', ht', rfl⟩ := hj
    rw [stK_stI] at hu
    have hr : r < 3 := by
      have := (List.getElem?_eq_some_iff.1 hu).1
      simpa [stC] using this
    have hjl := (List.getElem?_eq_some_iff.1 ht').1
    rw [Nat.zero_add, hown.cellAt (j * 3 + r) (by omega), stsC_at ht' r hr, hu]
theorem eq_step : EqlAt Tryd.prog 51 (fun x => .agg (stK x).toArray) eqSt := by
  refine ⟨fun x y w => ?_, GuardAt.agg _ (by kernel_rfl)⟩
  have u3 := Tryd.underlying3
  have a3 := Tryd.isAgg3
  have z3 := Tryd.sizeOf3
  have hS : Tryd.prog.underlying 51 = some (.struct (Tryd.prog.fieldsOf 51)) := by kernel_rfl
  have hp : Tryd.prog.stoodInHeld 51 = false := by kernel_rfl
  simp only [stK, eqSt]
  rw [run_eql_struct, show (10000 : Nat) = 9999 + 1 from rfl, run_equalIn_agg w 9999 51 _ _ hS hp]
  simp only [Program.fieldsOf, Tryd.underlying51]
  go_simp
  by_cases h1 : x.fst = y.fst <;> by_cases h2 : x.snd.fst = y.snd.fst <;> by_cases h3 : x.snd.snd = y.snd.snd <;> simp [h1, h2, h3]
set_option maxHeartbeats 1000000 in
theorem cp_Contains_nil (S H C : Int) (w : World) : Calls Tryd.prog 50 #[.slice none 0 0, .agg #[.int .i64 S, .int .i64 H, .int .i64 C]] w fun e w' => e = .returned (.bool false) ∧ New w w' := by
  have HI : Hid (∀ w, Calls Tryd.prog 72 #[.slice none 0 0, .agg #[.int .i64 S, .int .i64 H, .int .i64 C]] w fun e w' => e = .returned (.int .i64 (-1)) ∧ New w w') := Lib.hid (by
    intro w
    go_enter Tryd.func72, Tryd.ntmps72
    go_wp2_with fail
    go_loopw [8] (fun i wr => i = .int .i64 0 ∧ New w wr) (fun _ _ => 0)
    case atStart => exact ⟨rfl, (New.refl w).alloc _⟩
    case round =>
      obtain ⟨rfl, hn⟩ := hrel
      go_wp2_with fail
      go_ret
      exact ⟨rfl, hn⟩)
  go_enter Tryd.func50, Tryd.ntmps50
  have hn := (New.refl w).alloc (.cells #[.int .i64 S, .int .i64 H, .int .i64 C] 51)
  go_wp2_with fail
  refine (HI.out _).mono ?_
  rintro e w' ⟨rfl, hb⟩
  go_wp2_with fail
  go_ret
  exact ⟨rfl, hn.trans hb⟩
theorem cp_Contains (b : Nat) (v : Value) (L : List Stp) (S H C : Int) (w : World) (h : StsAt w b v L) :
    Calls Tryd.prog 50 #[v, .agg #[.int .i64 S, .int .i64 H, .int .i64 C]] w fun e w' => e = .returned (.bool ((L.map stI).any fun y => eqSt (S, H, C) y)) ∧ New w w' := by
  have h' := h.sti
  rcases h' with ⟨rfl, h2⟩ | ⟨g, off, c, rfl, h1, h2, h4, h5⟩
  · rw [h2]
    exact cp_Contains_nil S H C w
  · have h6 := AnyQ.slices_Contains Tryd.hasStep 3 Tryd.isAgg51 Tryd.sizeOf51 stK (fun _ => rfl) eqSt eq_step g off (L.map stI).length c (L.map stI) (S, H, C) w (Nat.le_refl _) (by omega) (fun j hj i u hu => h5 j _ (by rw [List.getElem?_eq_getElem hj, getElem!_pos _ j hj]) i u hu)
    rw [List.take_length] at h6
    exact h6
def ckvV : Option Nat → Value
  | some k => .tuple #[.int .i64 k, .int .i64 0]
  | none => .tuple #[.int .i64 0, .int .i64 42]
set_option maxRecDepth 100000 in
set_option maxHeartbeats 2000000 in
theorem cp_CheckAlign_ok (F : List Bytes) (m : Md) (mode : Int) (s h : Bytes) (l : List StI) (v : Value) (w : World) (hT : TabAt w F) (hv : StiAt w v l) (hm : mdOf mode = some m) {a b : List Nat} (ha : keysOf s = some a) (hb : keysOf h = some b) (ls : s.length ≤ 64) (lh : h.length ≤ 64) :
    Calls Tryd.prog 26 #[.int .i64 mode, .string (B s), .string (B h), v] w fun e w' => e = .returned (ckvV (ckG (mdC F m) a b (0, 0) 0 l)) ∧ New w w' := by
  have hc := cp_newHearing_ok m mode s h w hm ls lh ha hb
  have la : a.length ≤ 64 := by rw [keysOf_len ha]; exact ls
  have lb : b.length ≤ 64 := by rw [keysOf_len hb]; exact lh
  have HC := Lib.hid hc
  have HT := Lib.hid hT
  have HV := Lib.hid hv
  obtain ⟨A, c, rfl, b1, b2⟩ := hv.form
  have HK := Lib.hid (And.intro (keysOf_lt ha) (keysOf_lt hb))
  clear hc hT hm ha hb hv
  generalize hR : ckG (mdC F m) a b (0, 0) 0 l = R
  have HRR := Lib.hid hR
  clear hR
  unfold hearV at HC
  rw [medV_eq] at HC
  go_enter Tryd.func26, Tryd.ntmps26
  go_wp2_with fail
  refine HC.out.mono ?_
  rintro e w1 ⟨g1, g2, rfl, h1, r1, r2⟩
  have hx := hear_made (m := m) r1 r2 HK.out.1 HK.out.2 la lb
  unfold ksl at hx ⊢
  generalize htm : medT m = tm at *
  have HX1 := Lib.hid hx
  have HN1 := Lib.hid h1
  clear hx r1 r2 h1 HC
  have HRB := Lib.hid (RowIs.new w1 83 [.iface tm (.agg #[]), .slice (some ⟨g1, 0, none⟩) a.length a.length, .slice (some ⟨g2, 0, none⟩) b.length b.length])
  have k2 := (New.refl w1).alloc (.cells #[.iface tm (.agg #[]), .slice (some ⟨g1, 0, none⟩) a.length a.length, .slice (some ⟨g2, 0, none⟩) b.length b.length] 83)
  have hs2 : (w1.alloc (.cells #[.iface tm (.agg #[]), .slice (some ⟨g1, 0, none⟩) a.length a.length, .slice (some ⟨g2, 0, none⟩) b.length b.length] 83)).heap.size = w1.heap.size + 1 := by simp
  have HX2 := Lib.hid (HX1.out.keep k2)
  have HN2 := Lib.hid (HN1.out.trans k2)
  have HT2 := Lib.hid (HT.out.keep HN2.out)
  have HV2 := Lib.hid (HV.out.keep HN2.out)
  generalize hWdef : w1.alloc (.cells #[.iface tm (.agg #[]), .slice (some ⟨g1, 0, none⟩) a.length a.length, .slice (some ⟨g2, 0, none⟩) b.length b.length] 83) = W at *
  clear k2 HX1 HN1
  go_wp2_with fail
  go_loopw [29, 13] (fun s29 s13 wr => ∃ (j : Nat) (p : Nat × Nat) (n : Nat), s29 = .int .i64 j ∧ s13 = .int .i64 n ∧ j ≤ l.length ∧ InL a b p ∧ n ≤ 10 * (p.1 + p.2) ∧ ckG (mdC F m) a b p n (l.drop j) = R ∧ RowIs wr (w1.heap.size + 1) 88 [.int .i64 p.1, .int .i64 p.2] ∧ New W wr) (fun i _ _ => l.length - (intOf i).toNat)
  case atStart => exact ⟨0, (0, 0), 0, rfl, rfl, Nat.zero_le _, ⟨Nat.zero_le _, Nat.zero_le _⟩, Nat.zero_le _, HRR.out, by have h := RowIs.new W 88 [.int .i64 0, .int .i64 0]; rw [hs2] at h; exact h, (New.refl W).alloc _⟩
  case round =>
    obtain ⟨j, ⟨i, k⟩, n, rfl, rfl, hj, hin, hn, hg, hpl, hnw⟩ := hrel
    have HG := Lib.hid (And.intro hin (And.intro hn hg))
    have HPL := Lib.hid hpl
    have HNW := Lib.hid hnw
    clear hin hn hg hpl hnw
    have HD0 : Hid (∀ w', New wr w' → w'.cell? ⟨w1.heap.size, 0, none⟩ = some (.iface tm (.agg #[])) ∧ w'.cell? ⟨w1.heap.size, 1, none⟩ = some (.slice (some ⟨g1, 0, none⟩) a.length a.length) ∧ w'.cell? ⟨w1.heap.size, 2, none⟩ = some (.slice (some ⟨g2, 0, none⟩) b.length b.length) ∧ w'.cell? ⟨w1.heap.size + 1, 0, none⟩ = some (.int .i64 i) ∧ w'.cell? ⟨w1.heap.size + 1, 1, none⟩ = some (.int .i64 k)) :=
      Lib.hid (fun w' hn => ⟨(HRB.out.keep (HNW.out.trans hn)).cell rfl, (HRB.out.keep (HNW.out.trans hn)).cell rfl, (HRB.out.keep (HNW.out.trans hn)).cell rfl, (HPL.out.keep hn).cell rfl, (HPL.out.keep hn).cell rfl⟩)
    by_cases hlt : j < l.length
    · obtain ⟨gb, go, rfl, -, -, hcs⟩ := (HV2.out.keep HNW.out).cells (by omega)
      have hst := hcs j _ (List.getElem?_eq_getElem hlt)
      have hdr : l.drop j = l[j] :: l.drop (j + 1) := List.drop_eq_getElem_cons hlt
      have HDR := Lib.hid hdr
      clear hcs hdr
      generalize l[j] = t at *
      obtain ⟨S, H0, C⟩ := t
      obtain ⟨y0, y1, y2⟩ := hst
      simp only at y0 y1 y2
      have i1 : (j : Int) < (l.length : Int) := by omega
      have i2 : (0 : Int) ≤ (j : Int) := by omega
      have HRS : Hid (RowIs (wr.alloc (.cells #[.int .i64 S, .int .i64 H0, .int .i64 C] 51)) wr.heap.size 51 [.int .i64 S, .int .i64 H0, .int .i64 C]) := Lib.hid (RowIs.new wr _ _)
      have HNB : Hid (New wr (wr.alloc (.cells #[.int .i64 S, .int .i64 H0, .int .i64 C] 51))) := Lib.hid ((New.refl wr).alloc _)
      go_wp2_with fail
      generalize hWB : wr.alloc (.cells #[.int .i64 S, .int .i64 H0, .int .i64 C] 51) = Wb at *
      clear hWB y0 y1 y2
      have HNA := Lib.hid (HNW.out.trans HNB.out)
      have HDB : Hid (∀ w', New Wb w' → New Wb w' ∧ w'.cell? ⟨wr.heap.size, 0, none⟩ = some (.int .i64 S) ∧ w'.cell? ⟨wr.heap.size, 1, none⟩ = some (.int .i64 H0) ∧ w'.cell? ⟨wr.heap.size, 2, none⟩ = some (.int .i64 C) ∧ w'.cell? ⟨w1.heap.size, 0, none⟩ = some (.iface tm (.agg #[])) ∧ w'.cell? ⟨w1.heap.size, 1, none⟩ = some (.slice (some ⟨g1, 0, none⟩) a.length a.length) ∧ w'.cell? ⟨w1.heap.size, 2, none⟩ = some (.slice (some ⟨g2, 0, none⟩) b.length b.length) ∧ w'.cell? ⟨w1.heap.size + 1, 0, none⟩ = some (.int .i64 i) ∧ w'.cell? ⟨w1.heap.size + 1, 1, none⟩ = some (.int .i64 k)) :=
        Lib.hid (fun w' hn => ⟨hn, (HRS.out.keep hn).cell rfl, (HRS.out.keep hn).cell rfl, (HRS.out.keep hn).cell rfl, HD0.out w' (HNB.out.trans hn)⟩)
      obtain ⟨-, z0, z1, z2, z3, z4, z5, z6, z7⟩ := HDB.out Wb (New.refl Wb)
      have HST : Hid (∀ w', New Wb w' → Calls Tryd.prog 48 #[.agg #[.iface tm (.agg #[]), .slice (some ⟨g1, 0, none⟩) a.length a.length, .slice (some ⟨g2, 0, none⟩) b.length b.length], .agg #[.int .i64 i, .int .i64 k]] w' fun e w'' => ∃ v', e = .returned v' ∧ (StsAt w'' w'.heap.size v' (stpsL (mdC F m) a b (i, k)) ∧ New w' w'')) :=
        Lib.hid (fun w' hn => cp_steps F m a b _ (i, k) w' (HT2.out.keep (HNA.out.trans hn)) (HX2.out.keep (HNA.out.trans hn)) HG.out.1)
      have HCN : Hid (∀ bb v' w', StsAt w' bb v' (stpsL (mdC F m) a b (i, k)) → Calls Tryd.prog 50 #[v', .agg #[.int .i64 S, .int .i64 H0, .int .i64 C]] w' fun e w'' => e = .returned (.bool (hasI (mdC F m) a b (i, k) (S, H0, C))) ∧ New w' w'') :=
        Lib.hid (fun bb v' w' hs => cp_Contains bb v' _ S H0 C w' hs)
      have hg2 := HG.out.2.2
      rw [HDR.out, ckG] at hg2
      have HGG := Lib.hid hg2
      clear hg2
      have HHI := Lib.hid (hasI_iff (c := mdC F m) (s := a) (h := b) (p := (i, k)) (t := (S, H0, C))).1
      cases hHB : hasI (mdC F m) a b (i, k) (S, H0, C) with
      | false =>
        rw [hHB] at HCN HGG
        have hr := HGG.out
        rw [if_neg (by decide)] at hr
        subst hr
        clear HHI hHB HGG
        generalize stpsL (mdC F m) a b (i, k) = L at *
        go_region_held3 (fun w' => New Wb w' ∧ w'.cell? ⟨wr.heap.size, 0, none⟩ = some (.int .i64 S) ∧ w'.cell? ⟨wr.heap.size, 1, none⟩ = some (.int .i64 H0) ∧ w'.cell? ⟨wr.heap.size, 2, none⟩ = some (.int .i64 C) ∧ w'.cell? ⟨w1.heap.size, 0, none⟩ = some (.iface tm (.agg #[])) ∧ w'.cell? ⟨w1.heap.size, 1, none⟩ = some (.slice (some ⟨g1, 0, none⟩) a.length a.length) ∧ w'.cell? ⟨w1.heap.size, 2, none⟩ = some (.slice (some ⟨g2, 0, none⟩) b.length b.length) ∧ w'.cell? ⟨w1.heap.size + 1, 0, none⟩ = some (.int .i64 i) ∧ w'.cell? ⟨w1.heap.size + 1, 1, none⟩ = some (.int .i64 k))
          (first | exact HDB.out _ (New.refl _).drew | exact HDB.out _ (New.trans (by first | assumption | exact (by assumption : New _ _ ∧ _).1) (by assumption)))
          (first | (go_at_call 48; refine (HST.out _ (by first | assumption | exact (New.refl _).drew | exact (by assumption : New _ _ ∧ _).1)).mono ?_; rintro e w' ⟨sv, rfl, sts, hb⟩) | (go_at_call 50; refine (HCN.out _ _ _ (by assumption)).mono ?_; rintro e w' ⟨rfl, hb⟩))
        have hn3 : New Wb w' := (by assumption : New Wb w' ∧ _).1
        have HN3 := Lib.hid hn3
        clear hn3
        go_wp2_with fail
        go_ret2
        exact ⟨rfl, HN2.out.trans (HNA.out.trans HN3.out)⟩
      | true =>
        rw [hHB] at HCN HGG
        obtain ⟨⟨uS, uH, uC⟩, hu, he⟩ := HHI.out hHB
        obtain ⟨rfl, rfl, rfl⟩ : S = uS ∧ H0 = uH ∧ C = (uC : Int) := by
          unfold stI at he
          exact ⟨congrArg Prod.fst he, congrArg (fun x => x.2.1) he, congrArg (fun x => x.2.2) he⟩
        have hr := HGG.out
        rw [if_pos rfl] at hr
        have hc10 : uC ≤ 10 := stps_cost HK.out.1 HK.out.2 hu
        have hin2 := stps_in hu HG.out.1
        have hin0 := HG.out.1
        have hn0 := HG.out.2.1
        have hn0 : n ≤ 10 * (i + k) := hn0
        have e1 : aftI (i, k) (S, H0, (uC : Int)) = aftL (i, k) (S, H0, uC) := rfl
        have e2 : n + ((S, H0, (uC : Int)) : StI).2.2.toNat = n + uC := by show n + (uC : Int).toNat = _; rw [Int.toNat_natCast]
        rw [e1, e2] at hr
        have ik : i ≤ 64 ∧ k ≤ 64 := by obtain ⟨l1, l2⟩ := hin0; simp only at l1 l2; omega
        have HAF : Hid (∀ w', Calls Tryd.prog 49 #[.agg #[.int .i64 i, .int .i64 k], .agg #[.int .i64 S, .int .i64 H0, .int .i64 (uC : Nat)]] w' fun e w'' => e = .returned (plV (aftL (i, k) (S, H0, uC))) ∧ New w' w'') :=
          Lib.hid (fun w' => cp_after (i, k) (S, H0, uC) w' (by show i ≤ _; omega) (by show k ≤ _; omega))
        generalize aftL (i, k) (S, H0, uC) = q at *
        obtain ⟨qi, qk⟩ := q
        unfold plV at HAF
        have hnq : n + uC ≤ 10 * (qi + qk) := by
          obtain ⟨⟨l1, l2⟩, l3⟩ := hin2
          obtain ⟨l4, l5⟩ := hin0
          unfold leftL at l3
          simp only at l1 l2 l3 l4 l5
          omega
        have HQ := Lib.hid (And.intro hin2.1 (And.intro hnq hr))
        have i3 : IntKind.i64.wrap ((n : Int) + (uC : Int)) = (n : Int) + (uC : Int) := IntWalk.i64_in _ (by omega)
        have I4 : Hid ((n : Int) + (uC : Int) = ((n + uC : Nat) : Int)) := Lib.hid (by omega)
        clear HHI hHB HGG he e1 e2 hr hin2 hin0 hn0 hnq hu hc10
        generalize stpsL (mdC F m) a b (i, k) = L at *
        generalize (uC : Int) = C at *
        go_region_held3 (fun w' => New Wb w' ∧ w'.cell? ⟨wr.heap.size, 0, none⟩ = some (.int .i64 S) ∧ w'.cell? ⟨wr.heap.size, 1, none⟩ = some (.int .i64 H0) ∧ w'.cell? ⟨wr.heap.size, 2, none⟩ = some (.int .i64 C) ∧ w'.cell? ⟨w1.heap.size, 0, none⟩ = some (.iface tm (.agg #[])) ∧ w'.cell? ⟨w1.heap.size, 1, none⟩ = some (.slice (some ⟨g1, 0, none⟩) a.length a.length) ∧ w'.cell? ⟨w1.heap.size, 2, none⟩ = some (.slice (some ⟨g2, 0, none⟩) b.length b.length) ∧ w'.cell? ⟨w1.heap.size + 1, 0, none⟩ = some (.int .i64 i) ∧ w'.cell? ⟨w1.heap.size + 1, 1, none⟩ = some (.int .i64 k))
          (first | exact HDB.out _ (New.refl _).drew | exact HDB.out _ (New.trans (by first | assumption | exact (by assumption : New _ _ ∧ _).1) (by assumption)))
          (first | (go_at_call 48; refine (HST.out _ (by first | assumption | exact (New.refl _).drew | exact (by assumption : New _ _ ∧ _).1)).mono ?_; rintro e w' ⟨sv, rfl, sts, hb⟩) | (go_at_call 50; refine (HCN.out _ _ _ (by assumption)).mono ?_; rintro e w' ⟨rfl, hb⟩))
        have hn3 : New Wb w' := (by assumption : New Wb w' ∧ _).1
        have HN3 := Lib.hid hn3
        clear hn3
        have zz := HDB.out _ HN3.out
        clear z0 z1 z2 z3 z4 z5 z6 z7
        obtain ⟨-, z0, z1, z2, -, -, -, z6, z7⟩ := zz
        go_wp2_with fail
        refine (HAF.out _).mono ?_
        rintro e w5 ⟨rfl, n5⟩
        have hp5 := (HPL.out.keep (HNB.out.trans HN3.out)).keep n5
        have hs5 := (HRS.out.keep HN3.out).keep n5
        have v0 := hp5.cell (i := 0) rfl
        have v1 := hp5.cell (i := 1) rfl
        have f0 := hp5.free 0
        have f1 := hp5.free 1
        have hne : w1.heap.size + 1 ≠ wr.heap.size := by have := HPL.out.lt; omega
        have P6 := Lib.hid (hp5.put2 (.int .i64 qi) (.int .i64 qk))
        have hs6 := (hs5.other hne 0 (.int .i64 qi)).other hne 1 (.int .i64 qk)
        have u0 := hs6.cell (i := 0) rfl
        have u1 := hs6.cell (i := 1) rfl
        have u2 := hs6.cell (i := 2) rfl
        have hgp : W.heap.size ≤ w1.heap.size + 1 := by omega
        have hn5 : New W w5 := (HNA.out.trans HN3.out).trans n5
        have HN6 := Lib.hid ((hn5.setCell (p := ⟨w1.heap.size + 1, 0, none⟩) hgp (.int .i64 qi)).setCell (p := ⟨w1.heap.size + 1, 1, none⟩) hgp (.int .i64 qk))
        clear z0 z1 z2 z6 z7 hp5 hs5 hs6 hn5 n5 hgp hne
        go_wp2_with fail
        refine ⟨⟨j + 1, (qi, qk), n + uC, by go_num, by rw [I4.out], by omega, HQ.out.1, HQ.out.2.1, HQ.out.2.2, P6.out, HN6.out⟩, by simp [intOf]; omega⟩
    · obtain rfl : j = l.length := by omega
      have hg2 := HG.out.2.2
      rw [List.drop_length, ckG] at hg2
      have HGG := Lib.hid hg2
      clear hg2
      have HDB : Hid (∀ w', New wr w' → New wr w' ∧ w'.cell? ⟨w1.heap.size, 0, none⟩ = some (.iface tm (.agg #[])) ∧ w'.cell? ⟨w1.heap.size, 1, none⟩ = some (.slice (some ⟨g1, 0, none⟩) a.length a.length) ∧ w'.cell? ⟨w1.heap.size, 2, none⟩ = some (.slice (some ⟨g2, 0, none⟩) b.length b.length) ∧ w'.cell? ⟨w1.heap.size + 1, 0, none⟩ = some (.int .i64 i) ∧ w'.cell? ⟨w1.heap.size + 1, 1, none⟩ = some (.int .i64 k)) := Lib.hid (fun w' hn => ⟨hn, HD0.out w' hn⟩)
      have HE : Hid (∀ w', New wr w' → Calls Tryd.prog 44 #[.agg #[.iface tm (.agg #[]), .slice (some ⟨g1, 0, none⟩) a.length a.length, .slice (some ⟨g2, 0, none⟩) b.length b.length]] w' fun e w'' => e = .returned (plV (a.length, b.length)) ∧ New w' w'') := Lib.hid (fun w' hn => cp_end m a b _ w' (HX2.out.keep (HNW.out.trans hn)))
      unfold plV at HE
      simp only at HE
      obtain ⟨-, z0, z1, z2, z3, z4⟩ := HDB.out wr (New.refl _)
      by_cases he : i = a.length ∧ k = b.length
      · obtain ⟨rfl, rfl⟩ := he
        have hr := HGG.out
        rw [if_pos rfl] at hr
        subst hr
        clear HGG
        go_wp2_with fail
        go_region_held3 (fun w' => New wr w' ∧ w'.cell? ⟨w1.heap.size, 0, none⟩ = some (.iface tm (.agg #[])) ∧ w'.cell? ⟨w1.heap.size, 1, none⟩ = some (.slice (some ⟨g1, 0, none⟩) a.length a.length) ∧ w'.cell? ⟨w1.heap.size, 2, none⟩ = some (.slice (some ⟨g2, 0, none⟩) b.length b.length) ∧ w'.cell? ⟨w1.heap.size + 1, 0, none⟩ = some (.int .i64 a.length) ∧ w'.cell? ⟨w1.heap.size + 1, 1, none⟩ = some (.int .i64 b.length))
          (first | exact HDB.out _ (New.refl _).drew | exact HDB.out _ (New.trans (by first | assumption | exact (by assumption : New _ _ ∧ _).1) (by assumption)))
          (first | (go_at_call 44; refine (HE.out _ (by first | assumption | exact (New.refl _).drew | exact (by assumption : New _ _ ∧ _).1)).mono ?_; rintro e w' ⟨rfl, hb⟩))
        have hn3 : New wr w' := (by assumption : New wr w' ∧ _).1
        have HN3 := Lib.hid hn3
        clear hn3
        go_wp2_with fail
        go_ret2
        exact ⟨rfl, HN2.out.trans (HNW.out.trans HN3.out)⟩
      · have hr := HGG.out
        rw [if_neg (by simpa using he)] at hr
        subst hr
        clear HGG
        by_cases hia : i = a.length
        · have hkb : ((k : Int) == (b.length : Int)) = false := by rw [beq_eq_false_iff_ne]; intro e; exact he ⟨hia, by omega⟩
          have hia2 : ((i : Int) == (a.length : Int)) = true := by rw [beq_iff_eq]; omega
          clear he hia
          go_wp2_with fail
          go_region_held3 (fun w' => New wr w' ∧ w'.cell? ⟨w1.heap.size, 0, none⟩ = some (.iface tm (.agg #[])) ∧ w'.cell? ⟨w1.heap.size, 1, none⟩ = some (.slice (some ⟨g1, 0, none⟩) a.length a.length) ∧ w'.cell? ⟨w1.heap.size, 2, none⟩ = some (.slice (some ⟨g2, 0, none⟩) b.length b.length) ∧ w'.cell? ⟨w1.heap.size + 1, 0, none⟩ = some (.int .i64 i) ∧ w'.cell? ⟨w1.heap.size + 1, 1, none⟩ = some (.int .i64 k))
            (first | exact HDB.out _ (New.refl _).drew | exact HDB.out _ (New.trans (by first | assumption | exact (by assumption : New _ _ ∧ _).1) (by assumption)))
            (first | (go_at_call 44; refine (HE.out _ (by first | assumption | exact (New.refl _).drew | exact (by assumption : New _ _ ∧ _).1)).mono ?_; rintro e w' ⟨rfl, hb⟩))
          have hn3 : New wr w' := (by assumption : New wr w' ∧ _).1
          have HN3 := Lib.hid hn3
          clear hn3
          go_wp2_with fail
          go_ret2
          exact ⟨rfl, HN2.out.trans (HNW.out.trans HN3.out)⟩
        · have hia2 : ((i : Int) == (a.length : Int)) = false := by rw [beq_eq_false_iff_ne]; omega
          clear he hia
          go_wp2_with fail
          go_region_held3 (fun w' => New wr w' ∧ w'.cell? ⟨w1.heap.size, 0, none⟩ = some (.iface tm (.agg #[])) ∧ w'.cell? ⟨w1.heap.size, 1, none⟩ = some (.slice (some ⟨g1, 0, none⟩) a.length a.length) ∧ w'.cell? ⟨w1.heap.size, 2, none⟩ = some (.slice (some ⟨g2, 0, none⟩) b.length b.length) ∧ w'.cell? ⟨w1.heap.size + 1, 0, none⟩ = some (.int .i64 i) ∧ w'.cell? ⟨w1.heap.size + 1, 1, none⟩ = some (.int .i64 k))
            (first | exact HDB.out _ (New.refl _).drew | exact HDB.out _ (New.trans (by first | assumption | exact (by assumption : New _ _ ∧ _).1) (by assumption)))
            (first | (go_at_call 44; refine (HE.out _ (by first | assumption | exact (New.refl _).drew | exact (by assumption : New _ _ ∧ _).1)).mono ?_; rintro e w' ⟨rfl, hb⟩))
          have hn3 : New wr w' := (by assumption : New wr w' ∧ _).1
          have HN3 := Lib.hid hn3
          clear hn3
          go_wp2_with fail
          go_ret2
          exact ⟨rfl, HN2.out.trans (HNW.out.trans HN3.out)⟩
/-- What CheckAlign returns. -/
def caR (F : List Bytes) (mode : Int) (s h : Bytes) (l : List StI) : Option Nat :=
  match mdOf mode, keysOf s, keysOf h with
    | some m, some a, some b => ckG (mdC F m) a b (0, 0) 0 l
    | _, _, _ => none
end Go.Proofs.YthodoabppkeidaaDoor
