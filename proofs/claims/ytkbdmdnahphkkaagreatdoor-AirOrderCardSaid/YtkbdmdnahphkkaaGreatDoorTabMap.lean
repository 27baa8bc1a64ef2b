/-
  byKey of the program: the map of the rows' numbers by their keys. Conditions: at most 400 rows, the texts are in memory.
-/
import Derived.Test.YtkbdmdnahphkkaaGreatDoorTabKeys
import Derived.OwnWalk
namespace Go.Proofs.YtkbdmdnahphkkaaGreatDoor
open Go.RowKit Go.ChangeMaps Go.MapKept Go.ChangeShapes
open Go.WideElems (Fit rd rg pl rd_val elemAt)
theorem info_int : (Tryz.prog.info? 3).map (fun i => (i.zero, i.size, i.bytes)) = some (some (.int .i64 0), 1, 8) := by kernel_rfl
theorem zero_ints (w : World) : (zeroValue 51).run Tryz.prog w = .ok (.slice none 0 0) w := by kernel_rfl
def gd (zs : List Nat) : DataW Unit := if zs = [] then .nil else .slice (lits .i64 (zs.map Int.ofNat)) []
theorem lits_inj {a b : List Int} (h : lits (H := Unit) .i64 a = lits .i64 b) : a = b := by
  unfold lits at h
  exact (List.map_inj_right (fun x y hxy => by cases hxy; rfl)).1 h
theorem gd_row {w : World} {base e : Nat} {v : Value} {zs : List Int} {ns : List Nat} (ho : w.ownsInts base e .i64 v zs) (h : gd ns = rowDatum .i64 v zs) : zs = ns.map Int.ofNat := by
  unfold gd at h
  rcases ho.datum (H := Unit) with ⟨e1, e2⟩ | e1
  · rw [e1] at h
    by_cases hn : ns = []
    · rw [hn, e2]; rfl
    · rw [if_neg hn] at h; cases h
  · rw [e1] at h
    by_cases hn : ns = []
    · rw [if_pos hn] at h; cases h
    · rw [if_neg hn] at h
      injection h with h1
      exact (lits_inj h1).symm
/-- Block b maps each key to the numbers of its rows, of the first n. -/
def MapAt (w : World) (base b : Nat) (l : List Rw) (n : Nat) : Prop :=
  ∃ D : DataW Unit, w.ownsGroups Tryz.prog 112 base 3 .i64 b n D ∧ Maps.IsMap D ∧ ∀ t wh, t.length ≤ maxLen → D.atKey (keyL t wh) .nil = gd (idxN l t wh n)
theorem New.grown {w w' : World} (h : New w w') (row : Option Nat) : w.grownBy w' row := ⟨h.out.os, h.out.tape, h.out.output, h.size, fun k hk _ => h.out.block k hk⟩
theorem owns_back {w w' : World} {base e : Nat} {v : Value} {zs zs' : List Int} (h : w.ownsInts base e .i64 v zs) (k : New w w') (h' : w'.ownsInts base e .i64 v zs') : zs' = zs :=
  h'.unique (h.kept (k.grown none) (by cases h : v.ownBlock <;> simp))
theorem groups_keep {w w' : World} {base b n : Nat} {D : DataW Unit} (h : w.ownsGroups Tryz.prog 112 base 3 .i64 b n D) (k : New w w') : w'.ownsGroups Tryz.prog 112 base 3 .i64 b n D := by
  obtain ⟨es, clock, hb, F, hs, hD, hbb, hlen, hap⟩ := h
  have hblt : b < w.heap.size := (Array.getElem?_eq_some_iff.1 hb).1
  have none_ne : ∀ v : Value, v.ownBlock = none ∨ v.ownBlock ≠ none := fun v => by cases v.ownBlock <;> simp
  have hs2 : ∀ x ∈ es.toList, ∀ z, rowElem (H := Unit) w base 3 .i64 x.val = some z → rowElem w' base 3 .i64 x.val = some z := by
    intro x _ z hz
    obtain ⟨ys, ho, rfl⟩ := rowElem_inv hz
    exact rowElem_mk (ho.kept (k.grown none) (none_ne _))
  obtain ⟨F2, hmap2, _⟩ := F.stay hs2
  refine ⟨es, clock, (k.out.block b hblt).trans hb, F2, hs, by rw [hmap2]; exact hD, hbb, ?_, hap⟩
  intro x hx zs ho
  obtain ⟨y, hy⟩ := F.reads x hx
  obtain ⟨z, hz, _⟩ := WideElems.rd_val hy
  obtain ⟨ys, ho0, _⟩ := rowElem_inv hz
  rw [owns_back ho0 k ho]
  exact hlen x hx ys ho0
theorem MapAt.keep {w w' : World} {base b n : Nat} {l : List Rw} (h : MapAt w base b l n) (k : New w w') : MapAt w' base b l n := by
  obtain ⟨D, h1, h2, h3⟩ := h
  exact ⟨D, groups_keep h1 k, h2, h3⟩
theorem MapAt.made (w : World) (l : List Rw) : MapAt (w.alloc (.map #[] 0)) (w.heap.size + 1) w.heap.size l 0 :=
  ⟨.map [], World.ownsGroups_made w _ _ _ _, Maps.isMap_empty, fun t wh _ => by simp [gd, idxN]; rfl⟩
theorem run_makeHint {P : Program} {t k e : TypeId} (ht : P.underlying t = some (.map k e)) (n : Int) (w : World) : (Instr.makeMap t (some (.int .i64 n))).run P w = .ok (.map (some w.heap.size)) (w.alloc (.map #[] 0)) := by
  simp [Instr.makeMap, run_underlying ht, asInt]
  rfl
theorem map_next {l : List Rw} {r : Rw} {k : Nat} {D : DataW Unit} {u w' : World} {b e b' e' : Nat} {x22 x25 : Value} {zs : List Int} (hr : l[k]? = some r) (hlen : r.text.length ≤ maxLen) (hD : Maps.IsMap D)
    (hat : ∀ t wh, t.length ≤ maxLen → D.atKey (keyL t wh) .nil = gd (idxN l t wh k)) (ho : u.ownsInts b e .i64 x22 zs) (he : D.atKey (keyL r.text r.whole) .nil = rowDatum .i64 x22 zs) (ho' : w'.ownsInts b' e' .i64 x25 (zs ++ [(k : Int)])) :
    ∀ t wh, t.length ≤ maxLen → (D.put (keyL r.text r.whole) (rowDatum .i64 x25 (zs ++ [(k : Int)]))).atKey (keyL t wh) .nil = gd (idxN l t wh (k + 1)) := by
  intro t wh ht
  have hrow : rowN l k = r := by simp [rowN, List.getD, hr]
  rw [idx_succ, hrow]
  by_cases hk : keyL t wh = keyL r.text r.whole
  · obtain ⟨rfl, rfl⟩ := key_inj ht hlen hk
    rw [Maps.atKey_put_same hD (show WideAt.IsKeyLit (keyL r.text r.whole) from trivial), if_pos (by simp [keyB]), ho'.datum_pos (by simp)]
    rw [hat _ _ hlen] at he
    rw [gd_row ho he]
    simp [gd]
  · rw [Maps.atKey_put_other hk, hat t wh ht, if_neg (fun h => hk (by simp [keyB] at h; rw [h.1, h.2])), List.append_nil]
theorem cells_one {w : World} {p : Nat} {v : Value} {t : TypeId} {fz : Nat × Nat} (h : w.heap[p]? = some (.cells #[v] t fz)) : ∀ j u, [v][j]? = some u → w.cell? ((⟨p, 0, none⟩ : Addr).add j) = some u := by
  intro j u hj
  cases j with
  | zero =>
    simp at hj
    subst hj
    rw [show ((⟨p, 0, none⟩ : Addr).add 0) = ⟨p, 0, none⟩ from rfl, cell_of_row _ _ 0 _ _ _ h]
    rfl
  | succ j => simp at hj
theorem wp_append_at {P : Program} {o : Oper} {a : Act} {w : World} {K : Act → World → Prop} {Q : Exit → Act → World → Prop} (s x : Operand) (t : TypeId) (ho : o.op = .call { callee := .builtin .append, args := #[s, x], argTypes := #[t, t] })
    (vs vx : Value) (hs : a.eval s = vs) (hx : a.eval x = vx) {v' : Value} {w' : World} (hr : (Builtin.append_ #[t, t] o.type #[vs, vx]).run P w = .ok v' w') (h : K (a.put o.dst v') w') : o.wp P a w K Q := by
  unfold Oper.wp execOp
  simp only [ho, resolve, invoke, builtin, Sem.run_bind, Sem.run_pure, Result.andThen_ok, List.map_toArray, List.map_cons, List.map_nil, hs, hx, hr]
  exact h
/-- The slots of byKey in its region that draws. -/
def actK (S P14 : Value) (M p5 k n : Nat) (r : Rw) (x16 x17 x18 x19 x20 x21 x22 x23 x24 x25 u26 : Value) : Act :=
  ⟨#[S, undef, .map none, .map (some M), .int .i64 k, .pointer (some ⟨p5, 0, none⟩), S, .int .i64 n, .map (some M), S, .int .i64 n, .int .i64 k, .bool true, .int .i64 k, P14,
    .agg #[.string (B r.text), .int .i64 r.country, .int .i64 r.zone, .int .i64 r.cont, .int .i64 r.frm, .int .i64 r.til, .bool r.whole], x16, x17, x18, x19, x20, x21, x22, x23, x24, x25, u26, undef], []⟩
/-- What the look-up has handed over. -/
def KGot (wa : World) (M k : Nat) (D : DataW Unit) (r : Rw) (x22 : Value) (u : World) (zs : List Int) : Prop :=
  New wa u ∧ u.ownsInts (M + 1) 3 .i64 x22 zs ∧ D.atKey (keyL r.text r.whole) .nil = rowDatum .i64 x22 zs ∧ zs.length ≤ k ∧
    u.groupBack Tryz.prog 64 112 (M + 1) 3 .i64 M k D (keyV r.text r.whole) (keyL r.text r.whole) x22
/-- .. and what append has made of it. -/
def KApp (M k : Nat) (x22 x25 : Value) (u : World) (zs : List Int) (w' : World) : Prop :=
  u.grownBy w' x22.ownBlock ∧ w'.ownsInts (M + 1) 3 .i64 x25 (zs ++ [(k : Int)]) ∧ (x25.ownBlock = x22.ownBlock ∨ ∃ g, x25.ownBlock = some g ∧ u.heap.size ≤ g)
def KNew (k : Nat) (x24 : Value) (w' : World) : Prop := ∃ p, x24 = .slice (some ⟨p, 0, none⟩) 1 1 ∧ w'.heap[p]? = some (.cells #[.int .i64 k] 3 (0, 0))
/-- The world while the region runs. -/
def KW (wa : World) (M k : Nat) (D : DataW Unit) (r : Rw) (Fin : World → Prop) (b6 b8 b9 b10 : Bool) (x22 x24 x25 : Value) (w' : World) : Prop :=
  (b10 = true → Fin w') ∧ (b9 = true → b6 = true) ∧ (b10 = false → (b6 = false → New wa w') ∧ (b6 = true → ∃ u zs, KGot wa M k D r x22 u zs ∧ (b9 = false → New u w') ∧ (b9 = true → KApp M k x22 x25 u zs w')) ∧ (b8 = true → b9 = false → KNew k x24 w'))
theorem KApp.keep {M k : Nat} {x22 x25 : Value} {u w' w'' : World} {zs : List Int} (h : KApp M k x22 x25 u zs w') (hn : New w' w'') : KApp M k x22 x25 u zs w'' :=
  ⟨h.1.trans (hn.grown _), h.2.1.kept (hn.grown none) (by cases x25.ownBlock <;> simp), h.2.2⟩
theorem KNew.keep {k : Nat} {x24 : Value} {w' w'' : World} (h : KNew k x24 w') (hn : New w' w'') : KNew k x24 w'' := by
  obtain ⟨p, e, hp⟩ := h
  exact ⟨p, e, heap_keep hn hp⟩
theorem KW.keep {wa : World} {M k : Nat} {D : DataW Unit} {r : Rw} {Fin : World → Prop} {b6 b8 b9 : Bool} {x22 x24 x25 : Value} {w' w'' : World}
    (h : KW wa M k D r Fin b6 b8 b9 false x22 x24 x25 w') (hn : New w' w'') : KW wa M k D r Fin b6 b8 b9 false x22 x24 x25 w'' := by
  obtain ⟨_, h1, h2⟩ := h
  obtain ⟨h3, h4, h5⟩ := h2 rfl
  refine ⟨(fun e => by cases e), h1, fun _ => ⟨fun e => (h3 e).trans hn, fun e => ?_, fun e e' => (h5 e e').keep hn⟩⟩
  obtain ⟨u, zs, g, g1, g2⟩ := h4 e
  exact ⟨u, zs, g, fun e' => (g1 e').trans hn, fun e' => (g2 e').keep hn⟩
/-- The row's own block is as it was. -/
theorem KW.row {wa : World} {M k p5 : Nat} {D : DataW Unit} {r : Rw} {Fin : World → Prop} {b6 b8 b9 : Bool} {x22 x24 x25 : Value} {w' : World}
    (h : KW wa M k D r Fin b6 b8 b9 false x22 x24 x25 w') (hr : RowIn wa p5 r) : RowIn w' p5 r := by
  obtain ⟨_, h1, h2⟩ := h
  obtain ⟨h3, h4, h5⟩ := h2 rfl
  cases b6 with
  | false => exact hr.keep (h3 rfl)
  | true =>
    obtain ⟨u, zs, g, g1, g2⟩ := h4 rfl
    have hu := hr.keep g.1
    cases b9 with
    | false => exact hu.keep (g1 rfl)
    | true =>
      obtain ⟨q1, _⟩ := g2 rfl
      unfold RowIn at hu ⊢
      have hlt : p5 < u.heap.size := (Array.getElem?_eq_some_iff.1 hu).1
      refine (q1.block p5 hlt ?_).trans hu
      intro e
      rcases g.2.1.1.2 with ⟨e2, _⟩ | ⟨gg, cap, cur, e2, _, hh, _⟩
      · rw [e2] at e; cases e
      · rw [e2] at e
        simp only [Value.ownBlock, Option.some.injEq] at e
        subst e
        rw [hh] at hu
        simp [rowCs] at hu
def KInv (S P14 : Value) (M p5 k n : Nat) (r : Rw) (u26 : Value) (wa : World) (D : DataW Unit) (Fin : World → Prop) (L : Array Bool) (a : Act) (w' : World) : Prop :=
  ∃ x16 x17 x18 x19 x20 x21 x22 x23 x24 x25 : Value, a = actK S P14 M p5 k n r x16 x17 x18 x19 x20 x21 x22 x23 x24 x25 u26 ∧
    (L.getD 0 false = true → x16 = .map (some M)) ∧ (L.getD 1 false = true → x17 = rowV r) ∧ (L.getD 2 false = true → x18 = keyV r.text r.whole) ∧
    (L.getD 3 false = true → x19 = .map (some M)) ∧ (L.getD 4 false = true → x20 = rowV r) ∧ (L.getD 5 false = true → x21 = keyV r.text r.whole) ∧ (L.getD 7 false = true → x23 = .int .i64 k) ∧
    (L.getD 10 false = true → ∀ j, j < 11 → L.getD j false = true) ∧ KW wa M k D r Fin (L.getD 6 false) (L.getD 8 false) (L.getD 9 false) (L.getD 10 false) x22 x24 x25 w'
set_option maxRecDepth 100000 in
set_option maxHeartbeats 2000000 in
theorem air_byKey (A : Option Addr) (n c : Nat) (l : List Rw) (w : World) (hl : RowsAt w A n l) (hn : n ≤ 400) (ht : TextsIn l) :
    Calls Tryz.prog 31 #[.slice A n c] w fun e w' => e = .returned (.map (some w.heap.size)) ∧ New w w' ∧ MapAt w' (w.heap.size + 1) w.heap.size l n := by
  have hmm := fun n => run_makeHint Tryz.underlying64 n w
  have HL := Lib.hid hl
  have HT := Lib.hid ht
  have HM := Lib.hid (MapAt.made w l)
  have HN := Lib.hid ((New.refl w).alloc (.map #[] 0))
  clear hl ht
  go_enter Tryz.func31, Tryz.ntmps31
  go_wp2_with fail
  go_loopw [11] (fun x wr => ∃ k : Nat, k ≤ n ∧ x = .int .i64 k ∧ MapAt wr (w.heap.size + 1) w.heap.size l k ∧ New w wr) (fun x _ => n - (intOf x).toNat)
  case atStart => exact ⟨0, by omega, rfl, HM.out, HN.out⟩
  case round =>
    obtain ⟨k, hk, rfl, hm, hnew⟩ := hrel
    have HMK := Lib.hid hm
    clear hm
    by_cases hlt : k < n
    · obtain ⟨b, off, r, rfl, hr, hd, hrow⟩ := HL.out.row hnew hlt
      obtain ⟨c0, c1, c2, c3, c4, c5, c6⟩ := hrow
      have HR := Lib.hid hr
      clear hr hd
      go_wp2_with fail
      obtain ⟨D, hgr, hmap, hat⟩ := HMK.out
      have HRI := Lib.hid (RowIn.new wr r)
      have HTX : Hid (r.text.length ≤ maxLen) := Lib.hid (by unfold maxLen; exact HT.out r (List.mem_of_getElem? HR.out))
      have HWF : Hid ((Lit.int .i64 (k : Int)).wf = true) := Lib.hid (WalkArith.wf_i64 (by omega))
      obtain ⟨i0, hi0, hz0, hz1, hz2⟩ := info_parts info_int
      refine wp_region_inv (KInv (.slice (some ⟨b, off, none⟩) n c) (.pointer (some ⟨b, off + k * 7, none⟩)) w.heap.size wr.heap.size k n r u26 (wr.alloc (.cells #[.string (B r.text), .int .i64 r.country, .int .i64 r.zone, .int .i64 r.cont, .int .i64 r.frm, .int .i64 r.til, .bool r.whole] 49)) D (fun w' => MapAt w' (w.heap.size + 1) w.heap.size l (k + 1) ∧ New w w')) (by kernel_rfl) ?_ ?_ ?_
      · exact ⟨_, _, _, _, _, _, _, _, _, _, rfl, (fun h => by simp at h), (fun h => by simp at h), (fun h => by simp at h), (fun h => by simp at h), (fun h => by simp at h), (fun h => by simp at h), (fun h => by simp at h), (fun h => by simp at h),
          (fun e => by simp at e), (fun e => by simp at e), fun _ => ⟨fun _ => (New.refl _).drew, (fun e => by simp at e), (fun e => by simp at e)⟩⟩
      · rintro L a w' i ⟨x16, x17, x18, x19, x20, x21, x22, x23, x24, x25, rfl, g0, g1, g2, g3, g4, g5, g7, g10, hkw⟩ hsz hi
        obtain ⟨hun, o, ho, hall⟩ := mem_ready.1 hi
        have hi11 : i < 11 := by have := (Array.getElem?_eq_some_iff.1 ho).1; simpa using this
        have hb10 : L.getD 10 false = false := by
          cases h : L.getD 10 false with
          | false => rfl
          | true => have h2 := g10 h i hi11; rw [getD_both hun] at h2; cases h2
        rw [hb10] at hkw
        have : i = 0 ∨ i = 1 ∨ i = 2 ∨ i = 3 ∨ i = 4 ∨ i = 5 ∨ i = 6 ∨ i = 7 ∨ i = 8 ∨ i = 9 ∨ i = 10 := by omega
        rcases this with rfl | rfl | rfl | rfl | rfl | rfl | rfl | rfl | rfl | rfl | rfl
        · refine wpOp_plain (by rfl) (by rfl) ?_
          unfold actK
          go_simp
          exact ⟨_, _, _, _, _, _, _, _, _, _, rfl, (fun _ => rfl), (fun h => g1 (listed_set h (by decide))), (fun h => g2 (listed_set h (by decide))), (fun h => g3 (listed_set h (by decide))), (fun h => g4 (listed_set h (by decide))), (fun h => g5 (listed_set h (by decide))), (fun h => g7 (listed_set h (by decide))), (fun h => by rw [getD_set_ne false (by decide), hb10] at h; cases h), by rw [getD_set_ne false (by decide), getD_set_ne false (by decide), getD_set_ne false (by decide), getD_set_ne false (by decide), hb10]; exact hkw⟩
        · obtain ⟨c0, c1, c2, c3, c4, c5, c6⟩ := (hkw.row HRI.out).cells
          simp only [Nat.zero_add] at c1 c2 c3 c4 c5 c6
          refine wpOp_plain (by rfl) (by rfl) ?_
          unfold actK
          go_simp
          exact ⟨_, _, _, _, _, _, _, _, _, _, rfl, (fun h => g0 (listed_set h (by decide))), (fun _ => rfl), (fun h => g2 (listed_set h (by decide))), (fun h => g3 (listed_set h (by decide))), (fun h => g4 (listed_set h (by decide))), (fun h => g5 (listed_set h (by decide))), (fun h => g7 (listed_set h (by decide))), (fun h => by rw [getD_set_ne false (by decide), hb10] at h; cases h), by rw [getD_set_ne false (by decide), getD_set_ne false (by decide), getD_set_ne false (by decide), getD_set_ne false (by decide), hb10]; exact hkw⟩
        · have ho : some _ = some o := ho
          obtain rfl := Option.some.inj ho
          have l1 : L.getD 1 false = true := hall ⟨1, .data⟩ (by simp) (by rfl)
          have e1 := g1 l1
          subst e1
          refine wpOp_plain (by rfl) (by rfl) ?_
          unfold actK
          go_simp
          refine (air_keyOf r w').mono ?_
          rintro e w2 ⟨rfl, hn⟩
          exact ⟨_, _, _, _, _, _, _, _, _, _, rfl, (fun h => g0 (listed_set h (by decide))), (fun h => g1 (listed_set h (by decide))), (fun _ => rfl), (fun h => g3 (listed_set h (by decide))), (fun h => g4 (listed_set h (by decide))), (fun h => g5 (listed_set h (by decide))), (fun h => g7 (listed_set h (by decide))), (fun h => by rw [getD_set_ne false (by decide), hb10] at h; cases h), by rw [getD_set_ne false (by decide), getD_set_ne false (by decide), getD_set_ne false (by decide), getD_set_ne false (by decide), hb10]; exact (hkw.keep hn)⟩
        · refine wpOp_plain (by rfl) (by rfl) ?_
          unfold actK
          go_simp
          exact ⟨_, _, _, _, _, _, _, _, _, _, rfl, (fun h => g0 (listed_set h (by decide))), (fun h => g1 (listed_set h (by decide))), (fun h => g2 (listed_set h (by decide))), (fun _ => rfl), (fun h => g4 (listed_set h (by decide))), (fun h => g5 (listed_set h (by decide))), (fun h => g7 (listed_set h (by decide))), (fun h => by rw [getD_set_ne false (by decide), hb10] at h; cases h), by rw [getD_set_ne false (by decide), getD_set_ne false (by decide), getD_set_ne false (by decide), getD_set_ne false (by decide), hb10]; exact hkw⟩
        · obtain ⟨c0, c1, c2, c3, c4, c5, c6⟩ := (hkw.row HRI.out).cells
          simp only [Nat.zero_add] at c1 c2 c3 c4 c5 c6
          refine wpOp_plain (by rfl) (by rfl) ?_
          unfold actK
          go_simp
          exact ⟨_, _, _, _, _, _, _, _, _, _, rfl, (fun h => g0 (listed_set h (by decide))), (fun h => g1 (listed_set h (by decide))), (fun h => g2 (listed_set h (by decide))), (fun h => g3 (listed_set h (by decide))), (fun _ => rfl), (fun h => g5 (listed_set h (by decide))), (fun h => g7 (listed_set h (by decide))), (fun h => by rw [getD_set_ne false (by decide), hb10] at h; cases h), by rw [getD_set_ne false (by decide), getD_set_ne false (by decide), getD_set_ne false (by decide), getD_set_ne false (by decide), hb10]; exact hkw⟩
        · have ho : some _ = some o := ho
          obtain rfl := Option.some.inj ho
          have l4 : L.getD 4 false = true := hall ⟨4, .data⟩ (by simp) (by rfl)
          have e1 := g4 l4
          subst e1
          refine wpOp_plain (by rfl) (by rfl) ?_
          unfold actK
          go_simp
          refine (air_keyOf r w').mono ?_
          rintro e w2 ⟨rfl, hn⟩
          exact ⟨_, _, _, _, _, _, _, _, _, _, rfl, (fun h => g0 (listed_set h (by decide))), (fun h => g1 (listed_set h (by decide))), (fun h => g2 (listed_set h (by decide))), (fun h => g3 (listed_set h (by decide))), (fun h => g4 (listed_set h (by decide))), (fun _ => rfl), (fun h => g7 (listed_set h (by decide))), (fun h => by rw [getD_set_ne false (by decide), hb10] at h; cases h), by rw [getD_set_ne false (by decide), getD_set_ne false (by decide), getD_set_ne false (by decide), getD_set_ne false (by decide), hb10]; exact (hkw.keep hn)⟩
        · have ho : some _ = some o := ho
          obtain rfl := Option.some.inj ho
          have l3 : L.getD 3 false = true := hall ⟨3, .data⟩ (by simp) (by rfl)
          have l5 : L.getD 5 false = true := hall ⟨5, .data⟩ (by simp) (by rfl)
          have e3 := g3 l3
          have e5 := g5 l5
          subst e3 e5
          have hb6 : L.getD 6 false = false := getD_both hun
          rw [hb6] at hkw
          obtain ⟨_, k1, k2⟩ := hkw
          have h9 : L.getD 9 false = false := by
            cases h : L.getD 9 false with
            | false => rfl
            | true => exact absurd (k1 h) (by decide)
          have hnew0 := (k2 rfl).1 rfl
          obtain ⟨v, zs, hrun, hat2, hoi, hzl, hback⟩ := (groups_keep hgr (((New.refl wr).alloc _).trans hnew0)).at key_law Tryz.underlying64 (zero_ints w') (by unfold maxLen; omega) (key_reads r.text r.whole HTX.out)
          have s6 : (L.setIfInBounds 6 true).getD 6 false = true := listed_self (by rw [hsz]; decide)
          refine wpOp_plain (by rfl) (by rfl) ?_
          unfold actK
          go_simp
          exact ⟨_, _, _, _, _, _, _, _, _, _, rfl, (fun h => g0 (listed_set h (by decide))), (fun h => g1 (listed_set h (by decide))), (fun h => g2 (listed_set h (by decide))), (fun h => g3 (listed_set h (by decide))), (fun h => g4 (listed_set h (by decide))), (fun h => g5 (listed_set h (by decide))), (fun h => g7 (listed_set h (by decide))), (fun h => by rw [getD_set_ne false (by decide), hb10] at h; cases h), by rw [s6, getD_set_ne false (by decide), getD_set_ne false (by decide), getD_set_ne false (by decide), hb10, h9]; exact ⟨(fun e => by cases e), (fun e => by cases e), fun _ => ⟨(fun e => by cases e), fun _ => ⟨w', zs, ⟨hnew0, hoi, hat2, hzl, hback⟩, fun _ => New.refl _, (fun e => by cases e)⟩, (by have h := (k2 rfl).2.2; rw [h9] at h; exact h)⟩⟩⟩
        · refine wpOp_plain (by rfl) (by rfl) ?_
          unfold actK
          go_simp
          exact ⟨_, _, _, _, _, _, _, _, _, _, rfl, (fun h => g0 (listed_set h (by decide))), (fun h => g1 (listed_set h (by decide))), (fun h => g2 (listed_set h (by decide))), (fun h => g3 (listed_set h (by decide))), (fun h => g4 (listed_set h (by decide))), (fun h => g5 (listed_set h (by decide))), (fun _ => rfl), (fun h => by rw [getD_set_ne false (by decide), hb10] at h; cases h), by rw [getD_set_ne false (by decide), getD_set_ne false (by decide), getD_set_ne false (by decide), getD_set_ne false (by decide), hb10]; exact hkw⟩
        · have ho : some _ = some o := ho
          obtain rfl := Option.some.inj ho
          have l7 : L.getD 7 false = true := hall ⟨7, .data⟩ (by simp) (by rfl)
          have e7 := g7 l7
          subst e7
          have s8 : (L.setIfInBounds 8 true).getD 8 false = true := listed_self (by rw [hsz]; decide)
          have hk2 := hkw.keep ((New.refl w').alloc (.cells #[.int .i64 k] 3))
          refine wpOp_plain (by rfl) (by rfl) ?_
          unfold actK
          go_simp
          exact ⟨_, _, _, _, _, _, _, _, _, _, rfl, (fun h => g0 (listed_set h (by decide))), (fun h => g1 (listed_set h (by decide))), (fun h => g2 (listed_set h (by decide))), (fun h => g3 (listed_set h (by decide))), (fun h => g4 (listed_set h (by decide))), (fun h => g5 (listed_set h (by decide))), (fun h => g7 (listed_set h (by decide))), (fun h => by rw [getD_set_ne false (by decide), hb10] at h; cases h), by rw [s8, getD_set_ne false (by decide), getD_set_ne false (by decide), getD_set_ne false (by decide), hb10]; exact ⟨(fun e => by cases e), hk2.2.1, fun _ => ⟨(hk2.2.2 rfl).1, (hk2.2.2 rfl).2.1, fun _ _ => ⟨_, rfl, heap_alloc_new _ _⟩⟩⟩⟩
        · have ho : some _ = some o := ho
          obtain rfl := Option.some.inj ho
          have l6 : L.getD 6 false = true := hall ⟨6, .data⟩ (by simp) (by rfl)
          have l8 : L.getD 8 false = true := hall ⟨8, .data⟩ (by simp) (by rfl)
          have hb9 : L.getD 9 false = false := getD_both hun
          rw [l6, l8, hb9] at hkw
          obtain ⟨_, k1, k2⟩ := hkw
          obtain ⟨k3, k4, k5⟩ := k2 rfl
          obtain ⟨u, zs, g, gn, _⟩ := k4 rfl
          have hnu := gn rfl
          obtain ⟨p, e24, hp⟩ := k5 rfl rfl
          subst e24
          have hoi := g.2.1.kept (hnu.grown none) (by cases x22.ownBlock <;> simp)
          have hz4 := g.2.2.2.1
          have hbs : w.heap.size + 1 ≤ w'.heap.size := by have a1 := hnew.size; have a2 := g.1.size; have a3 := hnu.size; simp at a2; omega
          obtain ⟨v', w2, hrun, hown, hgrow, hnil, hloc⟩ := run_append_own_at (P := Tryz.prog) w' (w.heap.size + 1) 51 51 3 i0 (.int .i64 0) 1 8 Tryz.underlying51 hi0 hz0 hz1 hz2 rfl (by decide) x22 zs.length (zs.map (Value.int .i64)) hoi.1 ⟨p, 0, none⟩ 1 1 [.int .i64 k] rfl (cells_one hp) (by simp [Value.oneCell']) (by unfold maxLen; omega) (by omega) hbs
          have s9 : (L.setIfInBounds 9 true).getD 9 false = true := listed_self (by rw [hsz]; decide)
          refine wpOp_plain (by rfl) (by rfl) (wp_append_at (.tmp 22) (.tmp 24) 51 (by rfl) _ _ (by rfl) (by rfl) hrun ?_)
          exact ⟨_, _, _, _, _, _, _, _, _, _, rfl, (fun h => g0 (listed_set h (by decide))), (fun h => g1 (listed_set h (by decide))), (fun h => g2 (listed_set h (by decide))), (fun h => g3 (listed_set h (by decide))), (fun h => g4 (listed_set h (by decide))), (fun h => g5 (listed_set h (by decide))), (fun h => g7 (listed_set h (by decide))), (fun h => by rw [getD_set_ne false (by decide), hb10] at h; cases h), by rw [s9, getD_set_ne false (by decide), getD_set_ne false (by decide), getD_set_ne false (by decide), hb10, l6, l8]; exact ⟨(fun e => by cases e), (fun _ => rfl), fun _ => ⟨(fun e => by cases e), fun _ => ⟨u, zs, g, (fun e => by cases e), fun _ => ⟨(hnu.grown _).trans hgrow, hoi.appended hown HWF.out, hloc.imp id (fun h => ⟨_, h, hnu.size⟩)⟩⟩, (fun _ e => by cases e)⟩⟩⟩
        · have ho : some _ = some o := ho
          obtain rfl := Option.some.inj ho
          have l0 : L.getD 0 false = true := hall ⟨0, .phase⟩ (by simp) (by rfl)
          have l1 : L.getD 1 false = true := hall ⟨1, .phase⟩ (by simp) (by rfl)
          have l2 : L.getD 2 false = true := hall ⟨2, .phase⟩ (by simp) (by rfl)
          have l3 : L.getD 3 false = true := hall ⟨3, .phase⟩ (by simp) (by rfl)
          have l4 : L.getD 4 false = true := hall ⟨4, .phase⟩ (by simp) (by rfl)
          have l5 : L.getD 5 false = true := hall ⟨5, .phase⟩ (by simp) (by rfl)
          have l6 : L.getD 6 false = true := hall ⟨6, .phase⟩ (by simp) (by rfl)
          have l7 : L.getD 7 false = true := hall ⟨7, .phase⟩ (by simp) (by rfl)
          have l8 : L.getD 8 false = true := hall ⟨8, .phase⟩ (by simp) (by rfl)
          have l9 : L.getD 9 false = true := hall ⟨9, .phase⟩ (by simp) (by rfl)
          have e0 := g0 l0
          have e2 := g2 l2
          subst e0 e2
          rw [l6, l8, l9] at hkw
          obtain ⟨_, k1, k2⟩ := hkw
          obtain ⟨k3, k4, k5⟩ := k2 rfl
          obtain ⟨u, zs, g, _, gn⟩ := k4 rfl
          obtain ⟨q1, q2, q3⟩ := gn rfl
          have hz4 := g.2.2.2.1
          obtain ⟨w2, hrun, hgr2, hgrow2⟩ := g.2.2.2.2 w' x25 (zs ++ [(k : Int)]) q1 q2 (by simp; omega) q3
          have s10 : (L.setIfInBounds 10 true).getD 10 false = true := listed_self (by rw [hsz]; decide)
          have hfin : MapAt w2 (w.heap.size + 1) w.heap.size l (k + 1) ∧ New w w2 := ⟨⟨_, hgr2, hmap.put _ _, map_next HR.out HTX.out hmap hat g.2.1 g.2.2.1 q2⟩, New.of (RowKit.Below.groups ((hnew.trans (((New.refl wr).alloc _).trans g.1)).out) g.2.1 q1 hgrow2 (by have a1 := hnew.size; have a2 := g.1.size; simp at a2; omega) (by omega) (by omega))⟩
          refine wpOp_plain (by rfl) (by rfl) ?_
          unfold actK
          go_simp
          refine ⟨_, _, _, _, _, _, _, _, _, _, rfl, (fun _ => rfl), (fun h => by first | exact g1 (listed_set h (by decide)) | rfl), (fun _ => rfl), (fun h => by first | exact g3 (listed_set h (by decide)) | rfl), (fun h => by first | exact g4 (listed_set h (by decide)) | rfl), (fun h => by first | exact g5 (listed_set h (by decide)) | rfl), (fun h => by first | exact g7 (listed_set h (by decide)) | rfl), (fun _ j hj => ?_), by rw [s10]; exact ⟨fun _ => hfin, (fun _ => by rw [getD_set_ne false (by decide)]; exact l6), (fun e => by cases e)⟩⟩
          have : j = 0 ∨ j = 1 ∨ j = 2 ∨ j = 3 ∨ j = 4 ∨ j = 5 ∨ j = 6 ∨ j = 7 ∨ j = 8 ∨ j = 9 ∨ j = 10 := by omega
          rcases this with rfl | rfl | rfl | rfl | rfl | rfl | rfl | rfl | rfl | rfl | rfl
          all_goals first | exact s10 | exact getD_set_true (by assumption)
      · rintro L a w' ⟨x16, x17, x18, x19, x20, x21, x22, x23, x24, x25, rfl, _, _, _, _, _, _, _, _, hkw⟩ hsz hr
        have l10 := all_of_ready (by decide +kernel) hsz hr 10 (by decide)
        rw [l10] at hkw
        obtain ⟨hf1, hf2⟩ := hkw.1 rfl
        have HF1 := Lib.hid hf1
        clear hf1 hkw
        unfold actK
        go_wp2_with fail
        exact ⟨⟨k + 1, by omega, rfl, HF1.out, hf2⟩, by simp [intOf]; omega⟩
    · obtain rfl : k = n := by omega
      go_wp2_with fail
      go_ret
      exact ⟨rfl, hnew, HMK.out⟩

end Go.Proofs.YtkbdmdnahphkkaaGreatDoor
