/-
  A system with all times and jumps moved, and its ties in the opposite order: its edges, its least sums. No condition but that both systems are valid.
  The law's own moved systems: moved. Condition: the system lies in memory and is valid, the number is no greater than the greatest minute.
  ClocksMoves, its walk. Condition: the system lies in memory, the variable beginning holds what the program's text lays.
-/
import Derived.Test.YtodmbcoobjcooaaDoorCkRfX
import Derived.Deep.AppendLies
namespace Go.Proofs.YtodmbcoobjcooaaDoor
open Go Go.RowKit Go.Shelf
def movT (b : Int) (t : Tk) : Tk := ⟨t.slip, t.drift, t.jumps.map (· + b), t.times.map (· + b)⟩
def movS (s : Sy) (b : Int) : Sy := ⟨s.tracks.map (movT b), s.ties.reverse, s.window⟩
theorem mov_back (s : Sy) (b : Int) : movS (movS s b) (-b) = s := by
  obtain ⟨ts, tis, win⟩ := s
  unfold movS
  have h : (ts.map (movT b)).map (movT (-b)) = ts := by
    rw [List.map_map]
    conv => rhs; rw [← List.map_id ts]
    apply List.map_congr_left
    intro t _
    obtain ⟨a, c, js, l⟩ := t
    have key : ∀ l : List Int, (l.map (· + b)).map (· + -b) = l := fun l => by
      rw [List.map_map]
      conv => rhs; rw [← List.map_id l]
      apply List.map_congr_left
      intro x _
      show x + b + -b = x
      omega
    show (⟨a, c, (js.map (· + b)).map (· + -b), (l.map (· + b)).map (· + -b)⟩ : Tk) = _
    rw [key, key]
    rfl
  dsimp only
  rw [h, List.reverse_reverse]
theorem mov_len (s : Sy) (b : Int) : (movS s b).tracks.length = s.tracks.length := by simp [movS]
theorem mov_tk {s : Sy} {b : Int} {i : Nat} (hi : i < s.tracks.length) : tkAt (movS s b) i = movT b (tkAt s i) := by
  unfold tkAt movS
  dsimp only
  rw [List.getElem?_map, List.getElem?_eq_getElem hi]
  rfl
theorem mov_tl (s : Sy) (b : Int) (i : Nat) : (tkAt (movS s b) i).times.length = (tkAt s i).times.length := by
  by_cases hi : i < s.tracks.length
  · rw [mov_tk hi]
    simp [movT]
  · have h1 : (movS s b).tracks[i]? = none := List.getElem?_eq_none (by rw [mov_len]; omega)
    have h2 : s.tracks[i]? = none := List.getElem?_eq_none (by omega)
    unfold tkAt
    rw [h1, h2]
theorem mov_fst (s : Sy) (b : Int) (k : Nat) : fstP (movS s b) k = fstP s k := by
  unfold fstP
  congr 2
  apply List.map_congr_left
  intro i _
  exact mov_tl s b i
theorem mov_plc (s : Sy) (b : Int) (r : Rf) : plc (movS s b) r = plc s r := by
  unfold plc
  rw [mov_fst]
theorem mov_npl (s : Sy) (b : Int) : nPl (movS s b) = nPl s := by
  unfold nPl
  rw [mov_len, mov_fst]
theorem mov_line (s : Sy) (b : Int) (r : Rf) : lineB (movS s b) r = lineB s r := by
  unfold lineB
  rw [mov_len, mov_tl]
theorem mov_tm {t : Tk} {b : Int} {j : Nat} (hj : j < t.times.length) : tmAt (movT b t) j = tmAt t j + b := by
  unfold tmAt movT
  dsimp only
  rw [List.getElem?_map, List.getElem?_eq_getElem hj]
  rfl
theorem mov_seg (l : List Int) (b m : Int) : segN (l.map (· + b)) (m + b) = segN l m := by
  unfold segN
  rw [List.countP_map]
  congr 1
  funext x
  show decide (x + b ≤ m + b) = decide (x ≤ m)
  simp
/-- By how much the number of a place is greater. -/
def shf (b : Int) (v : Nat) : Int := if v = 0 then 0 else b
theorem shf_line {s : Sy} {b : Int} {r : Rf} (h : lineB s r = true) : shf b (plc s r) = b := by
  have := (plc_line h).1
  unfold shf
  rw [if_neg (by omega)]
theorem bnds_cases {s : Sy} {b : Bd} (h : b ∈ bnds s) :
    (∃ i j, i < s.tracks.length ∧ j < (tkAt s i).times.length ∧ (b = upB i (tkAt s i) j ∨ b = downB i (tkAt s i) j)) ∨
    (∃ i j, i < s.tracks.length ∧ j < (tkAt s i).times.length - 1 ∧ b ∈ stepL i (tkAt s i) j) ∨
    (∃ i, i < s.ties.length ∧ (b = thereB s i ∨ b = backB s i)) := by
  unfold bnds slipsL stepsL tiesL slipsT stepsT at h
  simp only [List.mem_append, List.mem_flatMap, List.mem_range] at h
  rcases h with (⟨i, hi, j, hj, h⟩ | ⟨i, hi, j, hj, h⟩) | ⟨i, hi, h⟩
  · exact .inl ⟨i, j, hi, hj, by simpa using h⟩
  · exact .inr (.inl ⟨i, j, hi, hj, h⟩)
  · exact .inr (.inr ⟨i, hi, by simpa using h⟩)
theorem mov_step {t : Tk} {b : Int} {i j : Nat} (hj : j < t.times.length - 1) : stepL i (movT b t) j = stepL i t j := by
  have h1 : tmAt (movT b t) j = tmAt t j + b := mov_tm (by omega)
  have h2 : tmAt (movT b t) (j + 1) = tmAt t (j + 1) + b := mov_tm (by omega)
  have hs : shown (movT b t) j = shown t j := by unfold shown; rw [h1, h2]; omega
  have hw : wrong (movT b t) j = wrong t j := by unfold wrong; rw [hs]; rfl
  have hd : (movT b t).jumps = t.jumps.map (· + b) := rfl
  unfold stepL driftUp driftDown
  rw [hs, hw, h1, h2, hd, mov_seg, mov_seg]
theorem mov_edge {s : Sy} (hs : Ok s) (b : Int) {e : Eg} (he : e ∈ egs s) : (e.1, e.2.1, e.2.2 + shf b e.2.1 - shf b e.1) ∈ egs (movS s b) := by
  obtain ⟨d, hd, rfl⟩ := List.mem_map.1 he
  have hb0 : shf b (plc s beg) = 0 := by rw [plc_beg]; rfl
  rcases bnds_cases hd with ⟨i, j, hi, hj, h⟩ | ⟨i, j, hi, hj, h⟩ | ⟨i, hi, h⟩
  · have hl := shf_line (b := b) (line_mk hi hj)
    have hi' : i < (movS s b).tracks.length := by rw [mov_len]; exact hi
    have hj' : j < (tkAt (movS s b) i).times.length := by rw [mov_tl]; exact hj
    have ht : tmAt (tkAt (movS s b) i) j = tmAt (tkAt s i) j + b := by rw [mov_tk hi]; exact mov_tm hj
    have hsl : (tkAt (movS s b) i).slip = (tkAt s i).slip := by rw [mov_tk hi]; rfl
    rcases h with rfl | rfl
    · refine List.mem_map.2 ⟨_, mem_slip hi' hj' (.inl rfl), ?_⟩
      unfold egOf upB
      dsimp only
      rw [mov_plc, mov_plc, ht, hsl, hl, hb0]
      congr 2
      omega
    · refine List.mem_map.2 ⟨_, mem_slip hi' hj' (.inr rfl), ?_⟩
      unfold egOf downB
      dsimp only
      rw [mov_plc, mov_plc, ht, hsl, hl, hb0]
      congr 2
      omega
  · have hi' : i < (movS s b).tracks.length := by rw [mov_len]; exact hi
    have hj' : j < (tkAt (movS s b) i).times.length - 1 := by rw [mov_tl]; exact hj
    have hm : d ∈ stepL i (tkAt (movS s b) i) j := by rw [mov_tk hi, mov_step hj]; exact h
    refine List.mem_map.2 ⟨d, mem_step hi' hj' hm, ?_⟩
    have l1 := shf_line (b := b) (line_mk hi (show j < (tkAt s i).times.length by omega))
    have l2 := shf_line (b := b) (line_mk hi (show j + 1 < (tkAt s i).times.length by omega))
    have e2 : ((j : Int) + 1) = ((j + 1 : Nat) : Int) := by omega
    have hf : shf b (plc s d.frm) = b ∧ shf b (plc s d.to) = b := by
      unfold stepL at h
      rcases List.mem_cons.1 h with rfl | h
      · unfold orderB
        dsimp only
        rw [e2]
        exact ⟨l2, l1⟩
      · split at h
        · rcases List.mem_cons.1 h with rfl | h
          · unfold driftUp
            dsimp only
            rw [e2]
            exact ⟨l1, l2⟩
          · rw [List.mem_singleton] at h
            subst h
            unfold driftDown
            dsimp only
            rw [e2]
            exact ⟨l2, l1⟩
        · cases h
    unfold egOf
    dsimp only
    rw [mov_plc, mov_plc, hf.1, hf.2]
    congr 2
    omega
  · have hi' : s.ties.length - 1 - i < (movS s b).ties.length := by
      show s.ties.length - 1 - i < s.ties.reverse.length
      rw [List.length_reverse]; omega
    have ht : tiAt (movS s b) (s.ties.length - 1 - i) = tiAt s i := by
      unfold tiAt movS
      dsimp only
      rw [List.getElem?_reverse (by omega)]
      congr 2
      omega
    have hw : (movS s b).window = s.window := rfl
    have hne := hs.tie hi
    have p1 := shf_line (b := b) hne.1
    have p2 := shf_line (b := b) hne.2.1
    rcases h with rfl | rfl
    · refine List.mem_map.2 ⟨_, mem_tie hi' (.inl rfl), ?_⟩
      unfold egOf thereB
      dsimp only
      rw [ht, mov_plc, mov_plc, p1, p2, hw]
      congr 2
      omega
    · refine List.mem_map.2 ⟨_, mem_tie hi' (.inr rfl), ?_⟩
      unfold egOf backB
      dsimp only
      rw [ht, mov_plc, mov_plc, p1, p2, hw]
      congr 2
      omega
theorem Wk.mov {E F : List Eg} {f : Nat → Int} (h : ∀ e, e ∈ E → (e.1, e.2.1, e.2.2 + f e.2.1 - f e.1) ∈ F) {u v : Nat} {x : Int} (hw : Wk E u v x) : Wk F u v (x + f v - f u) := by
  induction hw with
  | nil => exact (Wk.nil u).cast rfl rfl (by omega)
  | snoc e _ he hv ih => exact (ih.snoc _ (h e he) hv).cast rfl rfl (by show _ + (e.2.2 + f e.2.1 - f e.1) = _; rw [hv]; omega)
theorem mov_edge2 {s : Sy} {b : Int} (hm : Ok (movS s b)) {e : Eg} (he : e ∈ egs (movS s b)) : (e.1, e.2.1, e.2.2 + (-shf b e.2.1) - (-shf b e.1)) ∈ egs s := by
  have h := mov_edge hm (-b) he
  rw [mov_back] at h
  have e1 : ∀ v, shf (-b) v = -shf b v := fun v => by
    unfold shf
    split <;> omega
  rw [e1, e1] at h
  exact h
theorem mov_closes {s : Sy} {b : Int} (hs : Ok s) (hm : Ok (movS s b)) : Closes (egs (movS s b)) ↔ Closes (egs s) := by
  constructor
  · rintro ⟨p, hp⟩
    refine ⟨fun v => p v - shf b v, fun e he => ?_⟩
    have := hp _ (mov_edge hs b he)
    dsimp only at this ⊢
    omega
  · rintro ⟨p, hp⟩
    refine ⟨fun v => p v + shf b v, fun e he => ?_⟩
    have := hp _ (mov_edge2 hm he)
    dsimp only at this ⊢
    omega
theorem mov_mnW {s : Sy} {b : Int} (hs : Ok s) (hm : Ok (movS s b)) (hc : Closes (egs s)) {u v : Nat} (hu : u < nPl s) (hv : v < nPl s) : mnW (egs (movS s b)) u v = mnW (egs s) u v + shf b v - shf b u := by
  have h := mnW_is hc hu hv
  refine mnW_eq ⟨h.1.mov (fun e he => mov_edge hs b he), fun x hx => ?_⟩
  have := h.2 _ (hx.mov (f := fun v => -shf b v) (fun e he => mov_edge2 hm he))
  omega
theorem mov_linesE {s : Sy} {b : Int} (hs : Ok s) (hm : Ok (movS s b)) (l : List Rf) : linesE (movS s b) l = linesE s l := by
  have h1 : checkE s = 0 := hs
  have h2 : checkE (movS s b) = 0 := hm
  unfold linesE
  rw [h1, h2]
  have : l.all (lineB (movS s b)) = l.all (lineB s) := by
    congr 1
    funext r
    exact mov_line s b r
  rw [this]
theorem mov_ask {s : Sy} {b : Int} (hs : Ok s) (hm : Ok (movS s b)) (l : List Rf) : askE (movS s b) l = askE s l := by
  unfold askE
  rw [mov_linesE hs hm]
  by_cases h : Closes (egs s)
  · have h2 := (mov_closes hs hm).2 h
    simp [h, h2]
  · have h2 : ¬Closes (egs (movS s b)) := fun k => h ((mov_closes hs hm).1 k)
    simp [h, h2]
theorem mov_rl {s : Sy} {b : Int} (hs : Ok s) (hm : Ok (movS s b)) (p q : Rf) : rlLo (movS s b) p q = rlLo s p q ∧ rlHi (movS s b) p q = rlHi s p q := by
  unfold rlLo rlHi
  rw [mov_ask hs hm]
  by_cases h : askE s [p, q] = 0
  · rw [if_pos h, if_pos h, if_pos h, if_pos h]
    obtain ⟨h1, h2⟩ := askE_zero h
    obtain ⟨-, h4⟩ := linesE_ok.1 h1
    have hp := h4 p (by simp)
    have hq := h4 q (by simp)
    have a := plc_lt (.inr hp : RefOk s p)
    have c := plc_lt (.inr hq : RefOk s q)
    rw [mov_plc, mov_plc, mov_mnW hs hm h2 c a, mov_mnW hs hm h2 a c, shf_line hp, shf_line hq]
    omega
  · rw [if_neg h, if_neg h, if_neg h, if_neg h]
    exact ⟨rfl, rfl⟩
/-- The spans of a moved system. -/
theorem mov_tmR {s : Sy} {b : Int} (hs : Ok s) (hm : Ok (movS s b)) : tmR (movS s b) = (tmR s).map fun r => r.map fun x => (x.1 + b, x.2 + b) := by
  unfold tmR
  rw [mov_ask hs hm]
  by_cases h : askE s [] = 0
  · rw [if_pos h, if_pos h, mov_len]
    obtain ⟨-, hc⟩ := ask_nil h
    unfold rowsK
    rw [List.map_map]
    apply List.map_congr_left
    intro i hi
    have hi := List.mem_range.1 hi
    show rowK _ _ _ i _ = (rowK _ _ _ i _).map _
    rw [mov_tl]
    unfold rowK
    rw [List.map_map]
    apply List.map_congr_left
    intro j hj
    have hj := List.mem_range.1 hj
    have hl := line_mk hi hj
    have hp := plc_lt (.inr hl : RefOk s ⟨i, j⟩)
    have h0 : shf b 0 = 0 := rfl
    show (-loF (movS s b) (plc (movS s b) ⟨i, j⟩), hiF (movS s b) (plc (movS s b) ⟨i, j⟩)) = (-loF s (plc s ⟨i, j⟩) + b, hiF s (plc s ⟨i, j⟩) + b)
    unfold loF hiF
    rw [mov_plc, mov_mnW hs hm hc hp (nPl_pos s), mov_mnW hs hm hc (nPl_pos s) hp, shf_line hl, h0]
    congr 1
    · omega
    · omega
  · rw [if_neg h, if_neg h]
    rfl
end Go.Proofs.YtodmbcoobjcooaaDoor

namespace Go.Proofs.YtodmbcoobjcooaaDoor
open Go Go.RowKit Go.Shelf
attribute [local go_sem] Oper.semAt_some
theorem info_track : (Tryd.prog.info? 30).map (fun i => (i.zero, i.size, i.bytes)) = some (some (.agg #[.int .i64 0, .int .i64 0, .slice none 0 0, .slice none 0 0]), 4, 64) := by kernel_rfl
theorem info_tie4 : (Tryd.prog.info? 79).map (fun i => (i.zero, i.size, i.bytes)) = some (some (.agg #[.int .i64 0, .int .i64 0, .int .i64 0, .int .i64 0]), 4, 32) := by kernel_rfl
theorem under_tracks4 : Tryd.prog.underlying 22 = some (.slice 30) := by kernel_rfl
theorem under_ties4 : Tryd.prog.underlying 23 = some (.slice 79) := by kernel_rfl
theorem jumps_in : ∀ {l : List Int} {p : Int}, -1 ≤ p → jumpsB p l = true → ∀ j, j < l.length → 0 ≤ l[j]?.getD 0 ∧ l[j]?.getD 0 ≤ 20000
  | [], _, _, _, j, hj => absurd hj (Nat.not_lt_zero j)
  | x :: l, p, hp, h, j, hj => by
    unfold jumpsB at h
    rw [Bool.and_eq_true] at h
    have hx := wiB_iff.1 h.1
    cases j with
    | zero => simp; omega
    | succ j => simpa using jumps_in (by omega) h.2 j (by simpa using hj)
/-- The cells of the first tracks: their lists lie at J and U. -/
def trkC (s : Sy) (J U : Nat → Value) (k : Nat) : List Value := (List.range k).flatMap fun i => [.int .i64 (tkAt s i).slip, .int .i64 (tkAt s i).drift, J i, U i]
theorem trkC_succ (s : Sy) (J U : Nat → Value) (k : Nat) : trkC s J U (k + 1) = trkC s J U k ++ [.int .i64 (tkAt s k).slip, .int .i64 (tkAt s k).drift, J k, U k] := by simp [trkC, List.range_succ]
theorem trkC_congr {s : Sy} {J U J' U' : Nat → Value} {k : Nat} (h : ∀ i, i < k → J i = J' i ∧ U i = U' i) : trkC s J U k = trkC s J' U' k := by
  unfold trkC
  rw [List.flatMap_def, List.flatMap_def]
  congr 1
  apply List.map_congr_left
  intro i hi
  have := h i (List.mem_range.1 hi)
  rw [this.1, this.2]
def mvI (b : Int) (l : List Int) : List Value := (l.map (· + b)).map (Value.int .i64)
theorem mvI_succ {b : Int} {l : List Int} {k : Nat} (h : k < l.length) : mvI b (l.take (k + 1)) = mvI b (l.take k) ++ [.int .i64 (l[k]?.getD 0 + b)] := by
  unfold mvI
  rw [take_map1 (· + b) l h 0, List.map_append]
  rfl
/-- The first moved tracks, in memory. -/
def TkO (W : World) (base : Nat) (V : Value) (s : Sy) (b : Int) (k : Nat) : Prop :=
  ∃ J U : Nat → Value, W.ownsRow base 30 4 V k (trkC s J U k) ∧ ∀ i, i < k → W.ownsRow base 3 1 (J i) (tkAt s i).jumps.length (mvI b (tkAt s i).jumps) ∧ W.ownsRow base 3 1 (U i) (tkAt s i).times.length (mvI b (tkAt s i).times)
theorem TkO.keep {W W' : World} {base : Nat} {V : Value} {s : Sy} {b : Int} {k : Nat} (h : TkO W base V s b k) (n : New W W') : TkO W' base V s b k := by
  obtain ⟨J, U, h1, h2⟩ := h
  exact ⟨J, U, owns_keep h1 n, fun i hi => ⟨owns_keep (h2 i hi).1 n, owns_keep (h2 i hi).2 n⟩⟩
theorem TkO.set {W : World} {base : Nat} {V : Value} {s : Sy} {b : Int} {k : Nat} (h : TkO W base V s b k) {p : Nat} {cs : List Value} (r : RowIs W p 25 cs) (i : Nat) (u : Value) : TkO (W.setCell ⟨p, i, none⟩ u) base V s b k := by
  obtain ⟨J, U, h1, h2⟩ := h
  exact ⟨J, U, owns_setCell h1 (owns_ne h1 r (by decide)) i u, fun j hj => ⟨owns_setCell (h2 j hj).1 (owns_ne (h2 j hj).1 r (by decide)) i u, owns_setCell (h2 j hj).2 (owns_ne (h2 j hj).2 r (by decide)) i u⟩⟩
theorem TkO.tks {W : World} {base : Nat} {A : Option Addr} {c : Nat} {s : Sy} {b : Int} (h : TkO W base (.slice A s.tracks.length c) s b s.tracks.length) : TksA W A (movS s b).tracks := by
  obtain ⟨J, U, h1, h2⟩ := h
  have hlen : (movS s b).tracks.length = s.tracks.length := mov_len s b
  rcases h1.2 with ⟨e1, e2⟩ | ⟨g, cap, cur, hv, hb, hh, k1, k2, k3, k4⟩
  · exact ⟨by rw [hlen]; omega, fun h0 => by rw [hlen] at h0; omega⟩
  · simp only [Value.slice.injEq] at hv
    obtain ⟨rfl, -, rfl⟩ := hv
    unfold maxLen at k2
    refine ⟨by rw [hlen]; omega, fun _ => ⟨g, 0, rfl, (Array.getElem?_eq_some_iff.1 hh).1, fun i hi => ?_⟩⟩
    rw [hlen] at hi
    have et : (movS s b).tracks[i]?.getD default = movT b (tkAt s i) := mov_tk hi
    rw [et]
    obtain ⟨p1, p2⟩ := h2 i hi
    obtain ⟨JA, jc, ej⟩ := owns_form p1
    obtain ⟨UA, uc, eu⟩ := owns_form p2
    have key : ∀ r, r < 4 → W.cell? ⟨g, 0 + i * 4 + r, none⟩ = [Value.int .i64 (tkAt s i).slip, .int .i64 (tkAt s i).drift, J i, U i][r]? := fun r hr => by
      rw [Nat.zero_add, h1.cellAt _ (by omega)]
      have := fm_get (fun i => [Value.int .i64 (tkAt s i).slip, .int .i64 (tkAt s i).drift, J i, U i]) 4 (fun _ => rfl) (List.range s.tracks.length) i r (by simpa using hi) hr
      rw [List.getElem_range] at this
      exact this
    have l1 : (movT b (tkAt s i)).jumps.length = (tkAt s i).jumps.length := by simp [movT]
    have l2 : (movT b (tkAt s i)).times.length = (tkAt s i).times.length := by simp [movT]
    rw [ej] at p1
    rw [eu] at p2
    refine ⟨JA, jc, UA, uc, key 0 (by decide), key 1 (by decide), ?_, ?_, (owns_ints p1).2, (owns_ints p2).2⟩
    · rw [l1, ← ej]; exact key 2 (by decide)
    · rw [l2, ← eu]; exact key 3 (by decide)
set_option maxRecDepth 100000 in
set_option maxHeartbeats 16000000 in
theorem law_moved (s : Sy) (hs : Ok s) (by' : Int) (hby : -20000 ≤ by' ∧ by' ≤ 20000) (A D : Option Addr) (c d : Nat) (w : World) (hM : SysM w A D s) :
    Calls Tryd.prog 63 #[.agg #[.slice A s.tracks.length c, .slice D s.ties.length d, .int .i64 s.window], .int .i64 by'] w fun e w' => ∃ A' c' D' d', e = .returned (.agg #[.slice A' s.tracks.length c', .slice D' s.ties.length d', .int .i64 s.window]) ∧ New w w' ∧ SysM w' A' D' (movS s by') := by
  have s0 := (New.refl w).alloc (.cells #[.slice A s.tracks.length c, .slice D s.ties.length d, .int .i64 s.window] 25)
  have s1 := (New.refl (w.alloc (.cells #[.slice A s.tracks.length c, .slice D s.ties.length d, .int .i64 s.window] 25))).alloc (.cells #[.slice none 0 0, .slice none 0 0, .int .i64 0] 25)
  have s2 := (New.refl ((w.alloc (.cells #[.slice A s.tracks.length c, .slice D s.ties.length d, .int .i64 s.window] 25)).alloc (.cells #[.slice none 0 0, .slice none 0 0, .int .i64 0] 25))).alloc (.cells #[.slice none 0 0, .slice none 0 0, .int .i64 s.window] 25)
  have nA := ((s0.trans s1).trans s2)
  have r0 := (RowIs.new w 25 [.slice A s.tracks.length c, .slice D s.ties.length d, .int .i64 s.window]).keep (s1.trans s2)
  have r1 := (RowIs.new (w.alloc (.cells #[.slice A s.tracks.length c, .slice D s.ties.length d, .int .i64 s.window] 25)) 25 [.slice none 0 0, .slice none 0 0, .int .i64 0]).keep s2
  have r2 := (RowIs.new ((w.alloc (.cells #[.slice A s.tracks.length c, .slice D s.ties.length d, .int .i64 s.window] 25)).alloc (.cells #[.slice none 0 0, .slice none 0 0, .int .i64 0] 25)) 25 [.slice none 0 0, .slice none 0 0, .int .i64 s.window])
  simp only [World.size_alloc] at r1 r2
  have HM := Lib.hid hM
  have HS := Lib.hid hs
  have h64 := (checkE_ok hs).1
  have h400 := (checkE_ok hs).2.1
  have HR0 := Lib.hid r0
  have HR1 := Lib.hid r1
  have HR2 := Lib.hid r2
  have HN := Lib.hid nA
  have c2 := r0.cell (i := 2) rfl
  clear s0 s1 s2 nA r0 r1 r2 hM hs
  obtain ⟨i0, hi0, hz0, hz1, hz2⟩ := info_parts info_int
  obtain ⟨i1, hi1, hy0, hy1, hy2⟩ := info_parts info_track
  obtain ⟨i2, hi2, hx0, hx1, hx2⟩ := info_parts info_tie4
  have HI : Hid ((Tryd.prog.info? 3 = some i0 ∧ i0.zero = some (.int .i64 0) ∧ i0.size = 1 ∧ i0.bytes = 8) ∧ (Tryd.prog.info? 30 = some i1 ∧ i1.zero = some (.agg #[.int .i64 0, .int .i64 0, .slice none 0 0, .slice none 0 0]) ∧ i1.size = 4 ∧ i1.bytes = 64) ∧ (Tryd.prog.info? 79 = some i2 ∧ i2.zero = some (.agg #[.int .i64 0, .int .i64 0, .int .i64 0, .int .i64 0]) ∧ i2.size = 4 ∧ i2.bytes = 32)) := Lib.hid ⟨⟨hi0, hz0, hz1, hz2⟩, ⟨hi1, hy0, hy1, hy2⟩, hi2, hx0, hx1, hx2⟩
  clear hi0 hz0 hz1 hz2 hi1 hy0 hy1 hy2 hi2 hx0 hx1 hx2
  go_enter Tryd.func63, Tryd.ntmps63
  go_wp2_with fail
  clear c2
  generalize (((w.alloc (.cells #[.slice A s.tracks.length c, .slice D s.ties.length d, .int .i64 s.window] 25)).alloc (.cells #[.slice none 0 0, .slice none 0 0, .int .i64 0] 25)).alloc (.cells #[.slice none 0 0, .slice none 0 0, .int .i64 s.window] 25)) = WS at *
  go_loopw [6] (fun i wr => ∃ (k : Nat) (VA : Option Addr) (vc : Nat), k ≤ s.tracks.length ∧ i = .int .i64 k ∧ New w wr ∧ RowIs wr w.heap.size 25 [.slice A s.tracks.length c, .slice D s.ties.length d, .int .i64 s.window] ∧ RowIs wr (w.heap.size + 1) 25 [.slice none 0 0, .slice none 0 0, .int .i64 0] ∧ RowIs wr (w.heap.size + 1 + 1) 25 [.slice VA k vc, .slice none 0 0, .int .i64 s.window] ∧ TkO wr w.heap.size (.slice VA k vc) s by' k) (fun i _ => s.tracks.length - (intOf i).toNat)
  case atStart => exact ⟨0, none, 0, Nat.zero_le _, rfl, HN.out, HR0.out, HR1.out, HR2.out, ⟨fun _ => undef, fun _ => undef, World.ownsRow_nil _ _ _ _, fun i h => absurd h (Nat.not_lt_zero i)⟩⟩
  case round =>
    obtain ⟨k, VA, vc, hk, rfl, hn, p0, p1, p2, ho⟩ := hrel
    clear HR0 HR1 HR2 HN
    have HNR := Lib.hid hn
    have HP0 := Lib.hid p0
    have HP1 := Lib.hid p1
    have HP2 := Lib.hid p2
    have HTO := Lib.hid ho
    have c0 := p0.cell (i := 0) rfl
    by_cases hlt : k < s.tracks.length
    · have ik : (k : Int) < (s.tracks.length : Int) := by omega
      obtain ⟨ab, ao, rfl, -, hc⟩ := (HM.out.1.keep hn).2 (by omega)
      have hfa := trackB_facts (HS.out.track hlt)
      obtain ⟨JA, jc, UA, uc, z0, z1, z2, z3, hJ, hU⟩ := hc k hlt
      have et : s.tracks[k]?.getD default = tkAt s k := rfl
      rw [et] at z0 z1 z2 z3 hJ hU
      have HZ2 := Lib.hid z2
      have HZ3 := Lib.hid z3
      have HJ := Lib.hid hJ
      have HU := Lib.hid hU
      have HTB : Hid (∀ j, j < (tkAt s k).times.length → 0 ≤ (tkAt s k).times[j]?.getD 0 ∧ (tkAt s k).times[j]?.getD 0 ≤ 20000) := Lib.hid fun j hj => ⟨(hfa.1 j hj).1, (hfa.1 j hj).2.1⟩
      have HJB : Hid (jumpsB (-1) (tkAt s k).jumps = true) := Lib.hid (by
        have := HS.out.track hlt
        unfold trackB clockB at this
        simp only [Bool.and_eq_true] at this
        exact this.2.1.1)
      have hjn : (tkAt s k).jumps.length ≤ 16 := hfa.2.2.2.2.2.2
      have HQ := Lib.hid (And.intro p0.lt (And.intro p1.lt p2.lt))
      have htl : (tkAt s k).times.length ≤ 400 := hfa.2.2.2.2.2.1
      clear HQ
      generalize hsl : (tkAt s k).slip = sl at *
      generalize hdr : (tkAt s k).drift = dr at *
      generalize hjl : (tkAt s k).jumps = jl at *
      generalize hul : (tkAt s k).times = ul at *
      have HTE := Lib.hid (And.intro hsl (And.intro hdr (And.intro hjl hul)))
      clear hsl hdr hjl hul hc hn p0 p1 p2 ho et hfa hJ hU z2 z3
      go_wp2_with fail
      have HSD : Hid (∀ w', New wr w' → (fun w' => w'.cell? ⟨w.heap.size, 0, none⟩ = some (.slice (some ⟨ab, ao, none⟩) s.tracks.length c) ∧ w'.cell? ⟨ab, ao + k * 4, none⟩ = some (.int .i64 sl) ∧ w'.cell? ⟨ab, ao + k * 4 + 1, none⟩ = some (.int .i64 dr)) w') := Lib.hid fun w' h => ⟨(HP0.out.keep h).cell rfl, h.cellOf z0, h.cellOf z1⟩
      dsimp only at HSD
      clear c0 z0 z1
      refine region_plain (by kernel_rfl) (wpAny_lastL (S := (fun w' => w'.cell? ⟨w.heap.size, 0, none⟩ = some (.slice (some ⟨ab, ao, none⟩) s.tracks.length c) ∧ w'.cell? ⟨ab, ao + k * 4, none⟩ = some (.int .i64 sl) ∧ w'.cell? ⟨ab, ao + k * 4 + 1, none⟩ = some (.int .i64 dr))) rfl (by kernel_rfl) (by kernel_rfl) (by kernel_rfl) ?_)
      simp only [List.dropLast, List.length_cons, List.length_nil, Nat.reduceAdd]
      change wpAnyH _ _ _ _ _ _ _ _ wr.drew
      have hS : (fun w' => w'.cell? ⟨w.heap.size, 0, none⟩ = some (.slice (some ⟨ab, ao, none⟩) s.tracks.length c) ∧ w'.cell? ⟨ab, ao + k * 4, none⟩ = some (.int .i64 sl) ∧ w'.cell? ⟨ab, ao + k * 4 + 1, none⟩ = some (.int .i64 dr)) wr.drew := HSD.out _ (New.refl wr).drew
      refine wpAnyH_take (i := 0) (v := ?_) rfl (by kernel_rfl) (by kernel_rfl) (by kernel_rfl) (fun _ _ _ h => h) (Or.inl ⟨by rfl, fun w' hS' => ?_⟩) hS ?_
      rotate_left
      · obtain ⟨s0, s1, s2⟩ := hS'
        go_simp
        try rfl
      try simp only [List.getElem_toArray, List.getElem_cons_zero, Act.put, List.setIfInBounds_toArray, List.set_cons_zero, List.set_cons_succ]
      refine wpAnyH_take (i := 1) (v := ?_) rfl (by kernel_rfl) (by kernel_rfl) (by kernel_rfl) (fun _ _ _ h => h) (Or.inl ⟨by rfl, fun w' hS' => ?_⟩) hS ?_
      rotate_left
      · obtain ⟨s0, s1, s2⟩ := hS'
        go_simp
        try rfl
      try simp only [List.getElem_toArray, List.getElem_cons_zero, List.getElem_cons_succ, Act.put, List.setIfInBounds_toArray, List.set_cons_zero, List.set_cons_succ]
      refine wpAnyH_take (i := 2) (v := ?_) rfl (by kernel_rfl) (by kernel_rfl) (by kernel_rfl) (fun _ _ _ h => h) (Or.inl ⟨by rfl, fun w' hS' => ?_⟩) hS ?_
      rotate_left
      · obtain ⟨s0, s1, s2⟩ := hS'
        go_simp
        try rfl
      try simp only [List.getElem_toArray, List.getElem_cons_zero, List.getElem_cons_succ, Act.put, List.setIfInBounds_toArray, List.set_cons_zero, List.set_cons_succ]
      refine wpAnyH_take (i := 3) (v := ?_) rfl (by kernel_rfl) (by kernel_rfl) (by kernel_rfl) (fun _ _ _ h => h) (Or.inl ⟨by rfl, fun w' hS' => ?_⟩) hS ?_
      rotate_left
      · obtain ⟨s0, s1, s2⟩ := hS'
        go_simp
        try rfl
      try simp only [List.getElem_toArray, List.getElem_cons_zero, List.getElem_cons_succ, Act.put, List.setIfInBounds_toArray, List.set_cons_zero, List.set_cons_succ]
      refine wpAnyH_take (i := 4) (v := ?_) rfl (by kernel_rfl) (by kernel_rfl) (by kernel_rfl) (fun _ _ _ h => h) (Or.inl ⟨by rfl, fun w' hS' => ?_⟩) hS ?_
      rotate_left
      · obtain ⟨s0, s1, s2⟩ := hS'
        go_simp
        try rfl
      try simp only [List.getElem_toArray, List.getElem_cons_zero, List.getElem_cons_succ, Act.put, List.setIfInBounds_toArray, List.set_cons_zero, List.set_cons_succ]
      refine wpAnyH_take (i := 5) (v := ?_) rfl (by kernel_rfl) (by kernel_rfl) (by kernel_rfl) (fun _ _ _ h => h) (Or.inl ⟨by rfl, fun w' hS' => ?_⟩) hS ?_
      rotate_left
      · obtain ⟨s0, s1, s2⟩ := hS'
        go_simp
        try rfl
      try simp only [List.getElem_toArray, List.getElem_cons_zero, List.getElem_cons_succ, Act.put, List.setIfInBounds_toArray, List.set_cons_zero, List.set_cons_succ]
      refine wpAnyH_take (i := 6) (v := ?_) rfl (by kernel_rfl) (by kernel_rfl) (by kernel_rfl) (fun _ _ _ h => h) (Or.inl ⟨by rfl, fun w' hS' => ?_⟩) hS ?_
      rotate_left
      · obtain ⟨s0, s1, s2⟩ := hS'
        go_simp
        try rfl
      try simp only [List.getElem_toArray, List.getElem_cons_zero, List.getElem_cons_succ, Act.put, List.setIfInBounds_toArray, List.set_cons_zero, List.set_cons_succ]
      refine wpAnyH_take (i := 7) (v := ?_) rfl (by kernel_rfl) (by kernel_rfl) (by kernel_rfl) (fun _ _ _ h => h) (Or.inl ⟨by rfl, fun w' hS' => ?_⟩) hS ?_
      rotate_left
      · obtain ⟨s0, s1, s2⟩ := hS'
        go_simp
        try rfl
      try simp only [List.getElem_toArray, List.getElem_cons_zero, List.getElem_cons_succ, Act.put, List.setIfInBounds_toArray, List.set_cons_zero, List.set_cons_succ]
      refine wpAnyH_take (i := 8) (v := ?_) rfl (by kernel_rfl) (by kernel_rfl) (by kernel_rfl) (fun _ _ _ h => h) (Or.inl ⟨by rfl, fun w' hS' => ?_⟩) hS ?_
      rotate_left
      · obtain ⟨s0, s1, s2⟩ := hS'
        go_simp
        try rfl
      try simp only [List.getElem_toArray, List.getElem_cons_zero, List.getElem_cons_succ, Act.put, List.setIfInBounds_toArray, List.set_cons_zero, List.set_cons_succ]
      refine wpAnyH_take (i := 9) (v := ?_) rfl (by kernel_rfl) (by kernel_rfl) (by kernel_rfl) (fun _ _ _ h => h) (Or.inl ⟨by rfl, fun w' hS' => ?_⟩) hS ?_
      rotate_left
      · obtain ⟨s0, s1, s2⟩ := hS'
        go_simp
        try rfl
      try simp only [List.getElem_toArray, List.getElem_cons_zero, List.getElem_cons_succ, Act.put, List.setIfInBounds_toArray, List.set_cons_zero, List.set_cons_succ]
      refine wpAnyH_take (i := 10) (v := ?_) rfl (by kernel_rfl) (by kernel_rfl) (by kernel_rfl) (fun _ _ _ h => h) (Or.inl ⟨by rfl, fun w' hS' => ?_⟩) hS ?_
      rotate_left
      · obtain ⟨s0, s1, s2⟩ := hS'
        go_simp
        try rfl
      try simp only [List.getElem_toArray, List.getElem_cons_zero, List.getElem_cons_succ, Act.put, List.setIfInBounds_toArray, List.set_cons_zero, List.set_cons_succ]
      refine wpAnyH_take (i := 11) (v := ?_) rfl (by kernel_rfl) (by kernel_rfl) (by kernel_rfl) (fun _ _ _ h => h) (Or.inl ⟨by rfl, fun w' hS' => ?_⟩) hS ?_
      rotate_left
      · obtain ⟨s0, s1, s2⟩ := hS'
        go_simp
        try rfl
      try simp only [List.getElem_toArray, List.getElem_cons_zero, List.getElem_cons_succ, Act.put, List.setIfInBounds_toArray, List.set_cons_zero, List.set_cons_succ]
      refine wpAnyH_take (i := 12) (v := ?_) rfl (by kernel_rfl) (by kernel_rfl) (by kernel_rfl) (fun _ _ _ h => h) (Or.inl ⟨by rfl, fun w' hS' => ?_⟩) hS ?_
      rotate_left
      · obtain ⟨s0, s1, s2⟩ := hS'
        go_simp
        try rfl
      try simp only [List.getElem_toArray, List.getElem_cons_zero, List.getElem_cons_succ, Act.put, List.setIfInBounds_toArray, List.set_cons_zero, List.set_cons_succ]
      refine wpAnyH_take (i := 13) (v := ?_) rfl (by kernel_rfl) (by kernel_rfl) (by kernel_rfl) (fun _ _ _ h => h) (Or.inl ⟨by rfl, fun w' hS' => ?_⟩) hS ?_
      rotate_left
      · obtain ⟨s0, s1, s2⟩ := hS'
        go_simp
        try rfl
      try simp only [List.getElem_toArray, List.getElem_cons_zero, List.getElem_cons_succ, Act.put, List.setIfInBounds_toArray, List.set_cons_zero, List.set_cons_succ]
      refine wpAnyH_take (i := 14) (v := ?_) rfl (by kernel_rfl) (by kernel_rfl) (by kernel_rfl) (fun _ _ _ h => h) (Or.inl ⟨by rfl, fun w' hS' => ?_⟩) hS ?_
      rotate_left
      · obtain ⟨s0, s1, s2⟩ := hS'
        go_simp
        try rfl
      try simp only [List.getElem_toArray, List.getElem_cons_zero, List.getElem_cons_succ, Act.put, List.setIfInBounds_toArray, List.set_cons_zero, List.set_cons_succ]
      refine wpAnyH_take (i := 15) (v := ?_) rfl (by kernel_rfl) (by kernel_rfl) (by kernel_rfl) (fun _ _ _ h => h) (Or.inl ⟨by rfl, fun w' hS' => ?_⟩) hS ?_
      rotate_left
      · obtain ⟨s0, s1, s2⟩ := hS'
        go_simp
        try rfl
      try simp only [List.getElem_toArray, List.getElem_cons_zero, List.getElem_cons_succ, Act.put, List.setIfInBounds_toArray, List.set_cons_zero, List.set_cons_succ]
      clear hS
      refine wpAnyH_ready (rs := [16]) (by kernel_rfl) (by simp) ?_
      refine AllReadyH.cons rfl (fun K hK => ?_) AllReadyH.nil
      go_simp
      refine hK.out _ _ (HSD.out _ ((New.refl wr).drew.alloc _)) (fun hS => ?_)
      clear hK K
      try simp only [List.getElem_toArray, List.getElem_cons_zero, List.getElem_cons_succ, Act.put, List.setIfInBounds_toArray, List.set_cons_zero, List.set_cons_succ]
      clear hS
      refine wpAnyH_done (by kernel_rfl) ?_ _
      simp only [LastQ]
      unfold NormQ
      go_wp2_with fail
      obtain ⟨wo, hwo⟩ : ∃ wo, wo = wr := ⟨_, rfl⟩
      subst hwo
      have HN1 := Lib.hid (((New.refl wo).alloc (.cells #[.int .i64 sl, .int .i64 dr, .slice none 0 0, .slice none 0 0] 30)).drew)
      have HT1 := Lib.hid ((RowIs.new wo 30 [.int .i64 sl, .int .i64 dr, .slice none 0 0, .slice none 0 0]).drew)
      generalize (wo.alloc (.cells #[.int .i64 sl, .int .i64 dr, .slice none 0 0, .slice none 0 0] 30)).drew = w5 at *
      have HJV : Hid (∀ j, j < jl.length → 0 ≤ jl[j]?.getD 0 ∧ jl[j]?.getD 0 ≤ 20000) := Lib.hid (jumps_in (by decide) HJB.out)
      have HUV : Hid (∀ j, j < ul.length → 0 ≤ ul[j]?.getD 0 ∧ ul[j]?.getD 0 ≤ 20000) := Lib.hid fun j hj => HTB.out j hj
      clear HSD
      go_loopw [8] (fun i w' => ∃ (j : Nat) (JV : Option Addr) (jc : Nat), j ≤ jl.length ∧ i = .int .i64 j ∧ New wo w' ∧ RowIs w' wo.heap.size 30 [.int .i64 sl, .int .i64 dr, .slice JV j jc, .slice none 0 0] ∧ w'.ownsRow wo.heap.size 3 1 (.slice JV j jc) j (mvI by' (jl.take j))) (fun i _ => jl.length - (intOf i).toNat)
      case atStart => exact ⟨0, none, 0, Nat.zero_le _, rfl, HN1.out, HT1.out, World.ownsRow_nil _ _ _ _⟩
      case round =>
        obtain ⟨j, JV, jc2, hj, rfl, hn, ht, how⟩ := hrel
        clear HN1 HT1
        have HN2 := Lib.hid hn
        have HT2 := Lib.hid ht
        have HOW := Lib.hid how
        have c0 := (HP0.out.keep hn).cell (i := 0) rfl
        have z2 := hn.cellOf HZ2.out
        clear hn ht how
        by_cases hjt : j < jl.length
        · have i2 : (j : Int) < (jl.length : Int) := by omega
          have hx := HJV.out j hjt
          have HMV := Lib.hid (mvI_succ (b := by') hjt)
          obtain ⟨jb, jo, rfl, -, hjc⟩ := HJ.out.2 (by omega)
          have x0 := hjc j hjt
          generalize hxx : jl[j]?.getD 0 = x at *
          clear hxx hjc
          have hw : IntKind.i64.wrap (x + by') = x + by' := IntWalk.i64_in _ (by omega)
          have hjl3 : j + 1 ≤ maxLen := by unfold maxLen; omega
          have HSD : Hid (∀ w', New wo w' → RowIs w' wo.heap.size 30 [.int .i64 sl, .int .i64 dr, .slice JV j jc2, .slice none 0 0] → (fun w' => w'.cell? ⟨wo.heap.size, 2, none⟩ = some (.slice JV j jc2) ∧ w'.cell? ⟨w.heap.size, 0, none⟩ = some (.slice (some ⟨ab, ao, none⟩) s.tracks.length c) ∧ w'.cell? ⟨ab, ao + k * 4 + 2, none⟩ = some (.slice (some ⟨jb, jo, none⟩) jl.length jc) ∧ w'.cell? ⟨jb, jo + j, none⟩ = some (.int .i64 x)) w') := Lib.hid fun w' h1 h2 => ⟨h2.cell rfl, (HP0.out.keep h1).cell rfl, h1.cellOf HZ2.out, h1.cellOf x0⟩
          dsimp only at HSD
          have HQ2 := Lib.hid ((New.refl wr).drew.alloc (.cells #[.int .i64 (x + by')] 3))
          have hq0 := owns_keep HOW.out HQ2.out
          have hbs : wo.heap.size ≤ (wr.drew.alloc (.cells #[.int .i64 (x + by')] 3)).heap.size := (HN2.out.trans HQ2.out).size
          have hlen : j + 1 ≤ 1000 := by omega
          obtain ⟨xs, hxs⟩ : ∃ xs, mvI by' (jl.take j) = xs := ⟨_, rfl⟩
          have HXS := Lib.hid hxs
          rw [hxs] at hq0
          clear hxs
          go_wp2_with fail
          clear c0 z2 x0
          refine region_plain (by kernel_rfl) (wpAny_lastL (S := (fun w' => w'.cell? ⟨wo.heap.size, 2, none⟩ = some (.slice JV j jc2) ∧ w'.cell? ⟨w.heap.size, 0, none⟩ = some (.slice (some ⟨ab, ao, none⟩) s.tracks.length c) ∧ w'.cell? ⟨ab, ao + k * 4 + 2, none⟩ = some (.slice (some ⟨jb, jo, none⟩) jl.length jc) ∧ w'.cell? ⟨jb, jo + j, none⟩ = some (.int .i64 x))) rfl (by kernel_rfl) (by kernel_rfl) (by kernel_rfl) ?_)
          simp only [List.dropLast, List.length_cons, List.length_nil, Nat.reduceAdd]
          change wpAnyH _ _ _ _ _ _ _ _ wr.drew
          have hS : (fun w' => w'.cell? ⟨wo.heap.size, 2, none⟩ = some (.slice JV j jc2) ∧ w'.cell? ⟨w.heap.size, 0, none⟩ = some (.slice (some ⟨ab, ao, none⟩) s.tracks.length c) ∧ w'.cell? ⟨ab, ao + k * 4 + 2, none⟩ = some (.slice (some ⟨jb, jo, none⟩) jl.length jc) ∧ w'.cell? ⟨jb, jo + j, none⟩ = some (.int .i64 x)) wr.drew := HSD.out _ HN2.out.drew HT2.out.drew
          refine wpAnyH_take (i := 0) (v := ?_) rfl (by kernel_rfl) (by kernel_rfl) (by kernel_rfl) (fun _ _ _ h => h) (Or.inl ⟨by rfl, fun w' hS' => ?_⟩) hS ?_
          rotate_left
          · obtain ⟨s0, s1, s2, s3⟩ := hS'
            go_simp
            try rfl
          try simp only [List.getElem_toArray, List.getElem_cons_zero, Act.put, List.setIfInBounds_toArray, List.set_cons_zero, List.set_cons_succ]
          refine wpAnyH_take (i := 1) (v := ?_) rfl (by kernel_rfl) (by kernel_rfl) (by kernel_rfl) (fun _ _ _ h => h) (Or.inl ⟨by rfl, fun w' hS' => ?_⟩) hS ?_
          rotate_left
          · obtain ⟨s0, s1, s2, s3⟩ := hS'
            go_simp
            try rfl
          try simp only [List.getElem_toArray, List.getElem_cons_zero, List.getElem_cons_succ, Act.put, List.setIfInBounds_toArray, List.set_cons_zero, List.set_cons_succ]
          refine wpAnyH_take (i := 2) (v := ?_) rfl (by kernel_rfl) (by kernel_rfl) (by kernel_rfl) (fun _ _ _ h => h) (Or.inl ⟨by rfl, fun w' hS' => ?_⟩) hS ?_
          rotate_left
          · obtain ⟨s0, s1, s2, s3⟩ := hS'
            go_simp
            try rfl
          try simp only [List.getElem_toArray, List.getElem_cons_zero, List.getElem_cons_succ, Act.put, List.setIfInBounds_toArray, List.set_cons_zero, List.set_cons_succ]
          refine wpAnyH_take (i := 3) (v := ?_) rfl (by kernel_rfl) (by kernel_rfl) (by kernel_rfl) (fun _ _ _ h => h) (Or.inl ⟨by rfl, fun w' hS' => ?_⟩) hS ?_
          rotate_left
          · obtain ⟨s0, s1, s2, s3⟩ := hS'
            go_simp
            try rfl
          try simp only [List.getElem_toArray, List.getElem_cons_zero, List.getElem_cons_succ, Act.put, List.setIfInBounds_toArray, List.set_cons_zero, List.set_cons_succ]
          refine wpAnyH_take (i := 4) (v := ?_) rfl (by kernel_rfl) (by kernel_rfl) (by kernel_rfl) (fun _ _ _ h => h) (Or.inl ⟨by rfl, fun w' hS' => ?_⟩) hS ?_
          rotate_left
          · obtain ⟨s0, s1, s2, s3⟩ := hS'
            go_simp
            try rfl
          try simp only [List.getElem_toArray, List.getElem_cons_zero, List.getElem_cons_succ, Act.put, List.setIfInBounds_toArray, List.set_cons_zero, List.set_cons_succ]
          refine wpAnyH_take (i := 5) (v := ?_) rfl (by kernel_rfl) (by kernel_rfl) (by kernel_rfl) (fun _ _ _ h => h) (Or.inl ⟨by rfl, fun w' hS' => ?_⟩) hS ?_
          rotate_left
          · obtain ⟨s0, s1, s2, s3⟩ := hS'
            go_simp
            try rfl
          try simp only [List.getElem_toArray, List.getElem_cons_zero, List.getElem_cons_succ, Act.put, List.setIfInBounds_toArray, List.set_cons_zero, List.set_cons_succ]
          refine wpAnyH_take (i := 6) (v := ?_) rfl (by kernel_rfl) (by kernel_rfl) (by kernel_rfl) (fun _ _ _ h => h) (Or.inl ⟨by rfl, fun w' hS' => ?_⟩) hS ?_
          rotate_left
          · obtain ⟨s0, s1, s2, s3⟩ := hS'
            go_simp
            try rfl
          try simp only [List.getElem_toArray, List.getElem_cons_zero, List.getElem_cons_succ, Act.put, List.setIfInBounds_toArray, List.set_cons_zero, List.set_cons_succ]
          refine wpAnyH_take (i := 7) (v := ?_) rfl (by kernel_rfl) (by kernel_rfl) (by kernel_rfl) (fun _ _ _ h => h) (Or.inl ⟨by rfl, fun w' hS' => ?_⟩) hS ?_
          rotate_left
          · obtain ⟨s0, s1, s2, s3⟩ := hS'
            go_simp
            try rfl
          try simp only [List.getElem_toArray, List.getElem_cons_zero, List.getElem_cons_succ, Act.put, List.setIfInBounds_toArray, List.set_cons_zero, List.set_cons_succ]
          refine wpAnyH_take (i := 8) (v := ?_) rfl (by kernel_rfl) (by kernel_rfl) (by kernel_rfl) (fun _ _ _ h => h) (Or.inl ⟨by rfl, fun w' hS' => ?_⟩) hS ?_
          rotate_left
          · obtain ⟨s0, s1, s2, s3⟩ := hS'
            go_simp
            try rfl
          try simp only [List.getElem_toArray, List.getElem_cons_zero, List.getElem_cons_succ, Act.put, List.setIfInBounds_toArray, List.set_cons_zero, List.set_cons_succ]
          refine wpAnyH_take (i := 9) (v := ?_) rfl (by kernel_rfl) (by kernel_rfl) (by kernel_rfl) (fun _ _ _ h => h) (Or.inl ⟨by rfl, fun w' hS' => ?_⟩) hS ?_
          rotate_left
          · obtain ⟨s0, s1, s2, s3⟩ := hS'
            go_simp
            try rfl
          try simp only [List.getElem_toArray, List.getElem_cons_zero, List.getElem_cons_succ, Act.put, List.setIfInBounds_toArray, List.set_cons_zero, List.set_cons_succ]
          refine wpAnyH_take (i := 10) (v := ?_) rfl (by kernel_rfl) (by kernel_rfl) (by kernel_rfl) (fun _ _ _ h => h) (Or.inl ⟨by rfl, fun w' hS' => ?_⟩) hS ?_
          rotate_left
          · obtain ⟨s0, s1, s2, s3⟩ := hS'
            go_simp
            try rfl
          try simp only [List.getElem_toArray, List.getElem_cons_zero, List.getElem_cons_succ, Act.put, List.setIfInBounds_toArray, List.set_cons_zero, List.set_cons_succ]
          refine wpAnyH_take (i := 11) (v := ?_) rfl (by kernel_rfl) (by kernel_rfl) (by kernel_rfl) (fun _ _ _ h => h) (Or.inl ⟨by rfl, fun w' hS' => ?_⟩) hS ?_
          rotate_left
          · obtain ⟨s0, s1, s2, s3⟩ := hS'
            go_simp
            try rfl
          try simp only [List.getElem_toArray, List.getElem_cons_zero, List.getElem_cons_succ, Act.put, List.setIfInBounds_toArray, List.set_cons_zero, List.set_cons_succ]
          refine wpAnyH_take (i := 12) (v := ?_) rfl (by kernel_rfl) (by kernel_rfl) (by kernel_rfl) (fun _ _ _ h => h) (Or.inl ⟨by rfl, fun w' hS' => ?_⟩) hS ?_
          rotate_left
          · obtain ⟨s0, s1, s2, s3⟩ := hS'
            go_simp
            try rfl
          try simp only [List.getElem_toArray, List.getElem_cons_zero, List.getElem_cons_succ, Act.put, List.setIfInBounds_toArray, List.set_cons_zero, List.set_cons_succ]
          refine wpAnyH_take (i := 13) (v := ?_) rfl (by kernel_rfl) (by kernel_rfl) (by kernel_rfl) (fun _ _ _ h => h) (Or.inl ⟨by rfl, fun w' hS' => ?_⟩) hS ?_
          rotate_left
          · obtain ⟨s0, s1, s2, s3⟩ := hS'
            go_simp
            try rfl
          try simp only [List.getElem_toArray, List.getElem_cons_zero, List.getElem_cons_succ, Act.put, List.setIfInBounds_toArray, List.set_cons_zero, List.set_cons_succ]
          refine wpAnyH_take (i := 14) (v := ?_) rfl (by kernel_rfl) (by kernel_rfl) (by kernel_rfl) (fun _ _ _ h => h) (Or.inl ⟨by rfl, fun w' hS' => ?_⟩) hS ?_
          rotate_left
          · obtain ⟨s0, s1, s2, s3⟩ := hS'
            go_simp
            try rfl
          try simp only [List.getElem_toArray, List.getElem_cons_zero, List.getElem_cons_succ, Act.put, List.setIfInBounds_toArray, List.set_cons_zero, List.set_cons_succ]
          clear hS
          refine wpAnyH_ready (rs := [15]) (by kernel_rfl) (by simp) ?_
          refine AllReadyH.cons rfl (fun K hK => ?_) AllReadyH.nil
          go_simp
          refine hK.out _ _ (HSD.out _ (HN2.out.trans HQ2.out) (HT2.out.keep HQ2.out)) (fun hS => ?_)
          clear hK K
          try simp only [List.getElem_toArray, List.getElem_cons_zero, List.getElem_cons_succ, Act.put, List.setIfInBounds_toArray, List.set_cons_zero, List.set_cons_succ]
          clear hS
          refine wpAnyH_ready (rs := [16]) (by kernel_rfl) (by simp) ?_
          refine AllReadyH.cons rfl (fun K hK => ?_) AllReadyH.nil
          refine step_append_lies _ rfl (.tmp 51) (.tmp 64) 26 rfl wo.heap.size 3 i0 (.int .i64 0) 1 8 under_ints2 HI.out.1.1 HI.out.1.2.1 HI.out.1.2.2.1 HI.out.1.2.2.2 rfl (by decide) (.slice JV j jc2) j _ rfl hq0 ⟨wr.drew.heap.size, 0, none⟩ 1 1 [.int .i64 (x + by')] rfl rfl (World.news_of_block (cs := #[.int .i64 (x + by')]) (heap_alloc_new _ _)) (by simp [Value.oneCell']) (by decide) hjl3 (by omega) hbs _ rfl ?_
          intro g cap w9 ho hg hat hlt9
          have HN9 : Hid (New wo w9) := Lib.hid (Below.trans (HN2.out.trans HQ2.out) (grown_below hq0 hg hbs))
          have HT9 := Lib.hid ((HT2.out.keep HQ2.out).grown hg (owns_ne hq0 (HT2.out.keep HQ2.out) (by decide)))
          refine hK.out _ _ (HSD.out _ HN9.out HT9.out) (fun hS => ?_)
          clear hK K
          try simp only [List.getElem_toArray, List.getElem_cons_zero, List.getElem_cons_succ, Act.put, List.setIfInBounds_toArray, List.set_cons_zero, List.set_cons_succ]
          refine wpAnyH_take (i := 17) (v := ?_) rfl (by kernel_rfl) (by kernel_rfl) (by kernel_rfl) (fun _ _ _ h => h) (Or.inl ⟨by rfl, fun w' hS' => ?_⟩) hS ?_
          rotate_left
          · obtain ⟨s0, s1, s2, s3⟩ := hS'
            go_simp
            try rfl
          try simp only [List.getElem_toArray, List.getElem_cons_zero, List.getElem_cons_succ, Act.put, List.setIfInBounds_toArray, List.set_cons_zero, List.set_cons_succ]
          refine wpAnyH_take (i := 18) (v := ?_) rfl (by kernel_rfl) (by kernel_rfl) (by kernel_rfl) (fun _ _ _ h => h) (Or.inl ⟨by rfl, fun w' hS' => ?_⟩) hS ?_
          rotate_left
          · obtain ⟨s0, s1, s2, s3⟩ := hS'
            go_simp
            try rfl
          try simp only [List.getElem_toArray, List.getElem_cons_zero, List.getElem_cons_succ, Act.put, List.setIfInBounds_toArray, List.set_cons_zero, List.set_cons_succ]
          clear hS
          refine wpAnyH_done (by kernel_rfl) ?_ _
          simp only [LastQ]
          unfold NormQ
          have e0 := HT9.out.cell (i := 2) rfl
          have ef := HT9.out.free 2
          have HT10 := Lib.hid (HT9.out.put 2 (.slice (some ⟨g, 0, none⟩) (j + 1) cap))
          have HO10 := Lib.hid (owns_setCell ho (owns_ne ho HT9.out (by decide)) 2 (.slice (some ⟨g, 0, none⟩) (j + 1) cap))
          have HN10 := Lib.hid (HN9.out.setCell (p := ⟨wo.heap.size, 2, none⟩) (by show wo.heap.size ≤ wo.heap.size; exact Nat.le_refl _) (.slice (some ⟨g, 0, none⟩) (j + 1) cap))
          clear ho hg hat hlt9 hq0 hbs HN9 HT9 HSD HQ2
          go_wp2_with fail
          clear e0 ef
          go_roundw
          case rel => exact ⟨j + 1, some ⟨g, 0, none⟩, cap, by omega, by go_num, HN10.out, HT10.out, by rw [HMV.out, HXS.out]; exact HO10.out⟩
          case measure => simp [intOf]; omega
        · obtain rfl : j = jl.length := by omega
          have HOJ : Hid (wr.ownsRow wo.heap.size 3 1 (.slice JV jl.length jc2) jl.length (mvI by' jl)) := Lib.hid (by have := HOW.out; rwa [List.take_length] at this)
          clear HOW
          go_wp2_with fail
          clear c0 z2
          obtain ⟨wj, hwj⟩ : ∃ wj, wj = wr := ⟨_, rfl⟩
          subst hwj
          have HJW : Hid (wo.heap.size ≤ wj.heap.size) := Lib.hid HN2.out.size
          have HJB2 : Hid (∀ g, (Value.slice JV jl.length jc2).ownBlock = some g → g < wj.heap.size) := Lib.hid fun g hg => (HOJ.out.lt g hg).2
          go_loopw [9] (fun i w' => ∃ (j : Nat) (UV : Option Addr) (uc : Nat), j ≤ ul.length ∧ i = .int .i64 j ∧ New wo w' ∧ RowIs w' wo.heap.size 30 [.int .i64 sl, .int .i64 dr, .slice JV jl.length jc2, .slice UV j uc] ∧ w'.ownsRow wo.heap.size 3 1 (.slice JV jl.length jc2) jl.length (mvI by' jl) ∧ w'.ownsRow wj.heap.size 3 1 (.slice UV j uc) j (mvI by' (ul.take j)) ∧ wj.heap.size ≤ w'.heap.size) (fun i _ => ul.length - (intOf i).toNat)
          case atStart => exact ⟨0, none, 0, Nat.zero_le _, rfl, HN2.out, HT2.out, HOJ.out, World.ownsRow_nil _ _ _ _, Nat.le_refl _⟩
          case round =>
            obtain ⟨j, UV, uc2, hj, rfl, hn, ht, hoj, how, hsz⟩ := hrel
            clear HN2 HT2 HOJ
            have HN2 := Lib.hid hn
            have HT2 := Lib.hid ht
            have HOW := Lib.hid how
            have HOJ := Lib.hid hoj
            have HSZ := Lib.hid hsz
            have c0 := (HP0.out.keep hn).cell (i := 0) rfl
            have z3 := hn.cellOf HZ3.out
            clear hn ht how hoj hsz
            by_cases hjt : j < ul.length
            · have i2 : (j : Int) < (ul.length : Int) := by omega
              have hx := HUV.out j hjt
              have HMV := Lib.hid (mvI_succ (b := by') hjt)
              obtain ⟨jb, jo, rfl, -, hjc⟩ := HU.out.2 (by omega)
              have x0 := hjc j hjt
              generalize hxx : ul[j]?.getD 0 = x at *
              clear hxx hjc
              have hw : IntKind.i64.wrap (x + by') = x + by' := IntWalk.i64_in _ (by omega)
              have hjl3 : j + 1 ≤ maxLen := by unfold maxLen; omega
              have HSD : Hid (∀ w', New wo w' → RowIs w' wo.heap.size 30 [.int .i64 sl, .int .i64 dr, .slice JV jl.length jc2, .slice UV j uc2] → (fun w' => w'.cell? ⟨wo.heap.size, 3, none⟩ = some (.slice UV j uc2) ∧ w'.cell? ⟨w.heap.size, 0, none⟩ = some (.slice (some ⟨ab, ao, none⟩) s.tracks.length c) ∧ w'.cell? ⟨ab, ao + k * 4 + 3, none⟩ = some (.slice (some ⟨jb, jo, none⟩) ul.length uc) ∧ w'.cell? ⟨jb, jo + j, none⟩ = some (.int .i64 x)) w') := Lib.hid fun w' h1 h2 => ⟨h2.cell rfl, (HP0.out.keep h1).cell rfl, h1.cellOf HZ3.out, h1.cellOf x0⟩
              dsimp only at HSD
              have HQ2 := Lib.hid ((New.refl wr).drew.alloc (.cells #[.int .i64 (x + by')] 3))
              have hq0 := owns_keep HOW.out HQ2.out
              have hbs : wj.heap.size ≤ (wr.drew.alloc (.cells #[.int .i64 (x + by')] 3)).heap.size := Nat.le_trans HSZ.out HQ2.out.size
              have hlen : j + 1 ≤ 1000 := by omega
              obtain ⟨xs, hxs⟩ : ∃ xs, mvI by' (ul.take j) = xs := ⟨_, rfl⟩
              have HXS := Lib.hid hxs
              rw [hxs] at hq0
              clear hxs
              go_wp2_with fail
              clear c0 z3 x0
              refine region_plain (by kernel_rfl) (wpAny_lastL (S := (fun w' => w'.cell? ⟨wo.heap.size, 3, none⟩ = some (.slice UV j uc2) ∧ w'.cell? ⟨w.heap.size, 0, none⟩ = some (.slice (some ⟨ab, ao, none⟩) s.tracks.length c) ∧ w'.cell? ⟨ab, ao + k * 4 + 3, none⟩ = some (.slice (some ⟨jb, jo, none⟩) ul.length uc) ∧ w'.cell? ⟨jb, jo + j, none⟩ = some (.int .i64 x))) rfl (by kernel_rfl) (by kernel_rfl) (by kernel_rfl) ?_)
              simp only [List.dropLast, List.length_cons, List.length_nil, Nat.reduceAdd]
              change wpAnyH _ _ _ _ _ _ _ _ wr.drew
              have hS : (fun w' => w'.cell? ⟨wo.heap.size, 3, none⟩ = some (.slice UV j uc2) ∧ w'.cell? ⟨w.heap.size, 0, none⟩ = some (.slice (some ⟨ab, ao, none⟩) s.tracks.length c) ∧ w'.cell? ⟨ab, ao + k * 4 + 3, none⟩ = some (.slice (some ⟨jb, jo, none⟩) ul.length uc) ∧ w'.cell? ⟨jb, jo + j, none⟩ = some (.int .i64 x)) wr.drew := HSD.out _ HN2.out.drew HT2.out.drew
              refine wpAnyH_take (i := 0) (v := ?_) rfl (by kernel_rfl) (by kernel_rfl) (by kernel_rfl) (fun _ _ _ h => h) (Or.inl ⟨by rfl, fun w' hS' => ?_⟩) hS ?_
              rotate_left
              · obtain ⟨s0, s1, s2, s3⟩ := hS'
                go_simp
                try rfl
              try simp only [List.getElem_toArray, List.getElem_cons_zero, Act.put, List.setIfInBounds_toArray, List.set_cons_zero, List.set_cons_succ]
              refine wpAnyH_take (i := 1) (v := ?_) rfl (by kernel_rfl) (by kernel_rfl) (by kernel_rfl) (fun _ _ _ h => h) (Or.inl ⟨by rfl, fun w' hS' => ?_⟩) hS ?_
              rotate_left
              · obtain ⟨s0, s1, s2, s3⟩ := hS'
                go_simp
                try rfl
              try simp only [List.getElem_toArray, List.getElem_cons_zero, List.getElem_cons_succ, Act.put, List.setIfInBounds_toArray, List.set_cons_zero, List.set_cons_succ]
              refine wpAnyH_take (i := 2) (v := ?_) rfl (by kernel_rfl) (by kernel_rfl) (by kernel_rfl) (fun _ _ _ h => h) (Or.inl ⟨by rfl, fun w' hS' => ?_⟩) hS ?_
              rotate_left
              · obtain ⟨s0, s1, s2, s3⟩ := hS'
                go_simp
                try rfl
              try simp only [List.getElem_toArray, List.getElem_cons_zero, List.getElem_cons_succ, Act.put, List.setIfInBounds_toArray, List.set_cons_zero, List.set_cons_succ]
              refine wpAnyH_take (i := 3) (v := ?_) rfl (by kernel_rfl) (by kernel_rfl) (by kernel_rfl) (fun _ _ _ h => h) (Or.inl ⟨by rfl, fun w' hS' => ?_⟩) hS ?_
              rotate_left
              · obtain ⟨s0, s1, s2, s3⟩ := hS'
                go_simp
                try rfl
              try simp only [List.getElem_toArray, List.getElem_cons_zero, List.getElem_cons_succ, Act.put, List.setIfInBounds_toArray, List.set_cons_zero, List.set_cons_succ]
              refine wpAnyH_take (i := 4) (v := ?_) rfl (by kernel_rfl) (by kernel_rfl) (by kernel_rfl) (fun _ _ _ h => h) (Or.inl ⟨by rfl, fun w' hS' => ?_⟩) hS ?_
              rotate_left
              · obtain ⟨s0, s1, s2, s3⟩ := hS'
                go_simp
                try rfl
              try simp only [List.getElem_toArray, List.getElem_cons_zero, List.getElem_cons_succ, Act.put, List.setIfInBounds_toArray, List.set_cons_zero, List.set_cons_succ]
              refine wpAnyH_take (i := 5) (v := ?_) rfl (by kernel_rfl) (by kernel_rfl) (by kernel_rfl) (fun _ _ _ h => h) (Or.inl ⟨by rfl, fun w' hS' => ?_⟩) hS ?_
              rotate_left
              · obtain ⟨s0, s1, s2, s3⟩ := hS'
                go_simp
                try rfl
              try simp only [List.getElem_toArray, List.getElem_cons_zero, List.getElem_cons_succ, Act.put, List.setIfInBounds_toArray, List.set_cons_zero, List.set_cons_succ]
              refine wpAnyH_take (i := 6) (v := ?_) rfl (by kernel_rfl) (by kernel_rfl) (by kernel_rfl) (fun _ _ _ h => h) (Or.inl ⟨by rfl, fun w' hS' => ?_⟩) hS ?_
              rotate_left
              · obtain ⟨s0, s1, s2, s3⟩ := hS'
                go_simp
                try rfl
              try simp only [List.getElem_toArray, List.getElem_cons_zero, List.getElem_cons_succ, Act.put, List.setIfInBounds_toArray, List.set_cons_zero, List.set_cons_succ]
              refine wpAnyH_take (i := 7) (v := ?_) rfl (by kernel_rfl) (by kernel_rfl) (by kernel_rfl) (fun _ _ _ h => h) (Or.inl ⟨by rfl, fun w' hS' => ?_⟩) hS ?_
              rotate_left
              · obtain ⟨s0, s1, s2, s3⟩ := hS'
                go_simp
                try rfl
              try simp only [List.getElem_toArray, List.getElem_cons_zero, List.getElem_cons_succ, Act.put, List.setIfInBounds_toArray, List.set_cons_zero, List.set_cons_succ]
              refine wpAnyH_take (i := 8) (v := ?_) rfl (by kernel_rfl) (by kernel_rfl) (by kernel_rfl) (fun _ _ _ h => h) (Or.inl ⟨by rfl, fun w' hS' => ?_⟩) hS ?_
              rotate_left
              · obtain ⟨s0, s1, s2, s3⟩ := hS'
                go_simp
                try rfl
              try simp only [List.getElem_toArray, List.getElem_cons_zero, List.getElem_cons_succ, Act.put, List.setIfInBounds_toArray, List.set_cons_zero, List.set_cons_succ]
              refine wpAnyH_take (i := 9) (v := ?_) rfl (by kernel_rfl) (by kernel_rfl) (by kernel_rfl) (fun _ _ _ h => h) (Or.inl ⟨by rfl, fun w' hS' => ?_⟩) hS ?_
              rotate_left
              · obtain ⟨s0, s1, s2, s3⟩ := hS'
                go_simp
                try rfl
              try simp only [List.getElem_toArray, List.getElem_cons_zero, List.getElem_cons_succ, Act.put, List.setIfInBounds_toArray, List.set_cons_zero, List.set_cons_succ]
              refine wpAnyH_take (i := 10) (v := ?_) rfl (by kernel_rfl) (by kernel_rfl) (by kernel_rfl) (fun _ _ _ h => h) (Or.inl ⟨by rfl, fun w' hS' => ?_⟩) hS ?_
              rotate_left
              · obtain ⟨s0, s1, s2, s3⟩ := hS'
                go_simp
                try rfl
              try simp only [List.getElem_toArray, List.getElem_cons_zero, List.getElem_cons_succ, Act.put, List.setIfInBounds_toArray, List.set_cons_zero, List.set_cons_succ]
              refine wpAnyH_take (i := 11) (v := ?_) rfl (by kernel_rfl) (by kernel_rfl) (by kernel_rfl) (fun _ _ _ h => h) (Or.inl ⟨by rfl, fun w' hS' => ?_⟩) hS ?_
              rotate_left
              · obtain ⟨s0, s1, s2, s3⟩ := hS'
                go_simp
                try rfl
              try simp only [List.getElem_toArray, List.getElem_cons_zero, List.getElem_cons_succ, Act.put, List.setIfInBounds_toArray, List.set_cons_zero, List.set_cons_succ]
              refine wpAnyH_take (i := 12) (v := ?_) rfl (by kernel_rfl) (by kernel_rfl) (by kernel_rfl) (fun _ _ _ h => h) (Or.inl ⟨by rfl, fun w' hS' => ?_⟩) hS ?_
              rotate_left
              · obtain ⟨s0, s1, s2, s3⟩ := hS'
                go_simp
                try rfl
              try simp only [List.getElem_toArray, List.getElem_cons_zero, List.getElem_cons_succ, Act.put, List.setIfInBounds_toArray, List.set_cons_zero, List.set_cons_succ]
              clear hS
              refine wpAnyH_ready (rs := [13]) (by kernel_rfl) (by simp) ?_
              refine AllReadyH.cons rfl (fun K hK => ?_) AllReadyH.nil
              go_simp
              refine hK.out _ _ (HSD.out _ (HN2.out.trans HQ2.out) (HT2.out.keep HQ2.out)) (fun hS => ?_)
              clear hK K
              try simp only [List.getElem_toArray, List.getElem_cons_zero, List.getElem_cons_succ, Act.put, List.setIfInBounds_toArray, List.set_cons_zero, List.set_cons_succ]
              clear hS
              refine wpAnyH_ready (rs := [14]) (by kernel_rfl) (by simp) ?_
              refine AllReadyH.cons rfl (fun K hK => ?_) AllReadyH.nil
              refine step_append_lies _ rfl (.tmp 80) (.tmp 92) 26 rfl wj.heap.size 3 i0 (.int .i64 0) 1 8 under_ints2 HI.out.1.1 HI.out.1.2.1 HI.out.1.2.2.1 HI.out.1.2.2.2 rfl (by decide) (.slice UV j uc2) j _ rfl hq0 ⟨wr.drew.heap.size, 0, none⟩ 1 1 [.int .i64 (x + by')] rfl rfl (World.news_of_block (cs := #[.int .i64 (x + by')]) (heap_alloc_new _ _)) (by simp [Value.oneCell']) (by decide) hjl3 (by omega) hbs _ rfl ?_
              intro g cap w9 ho hg hat hlt9
              have HN9 : Hid (New wo w9) := Lib.hid (Below.trans (HN2.out.trans HQ2.out) (grown_below (owns_base hq0 HJW.out) hg (HN2.out.trans HQ2.out).size))
              have HT9 := Lib.hid ((HT2.out.keep HQ2.out).grown hg (owns_ne hq0 (HT2.out.keep HQ2.out) (by decide)))
              refine hK.out _ _ (HSD.out _ HN9.out HT9.out) (fun hS => ?_)
              clear hK K
              try simp only [List.getElem_toArray, List.getElem_cons_zero, List.getElem_cons_succ, Act.put, List.setIfInBounds_toArray, List.set_cons_zero, List.set_cons_succ]
              refine wpAnyH_take (i := 15) (v := ?_) rfl (by kernel_rfl) (by kernel_rfl) (by kernel_rfl) (fun _ _ _ h => h) (Or.inl ⟨by rfl, fun w' hS' => ?_⟩) hS ?_
              rotate_left
              · obtain ⟨s0, s1, s2, s3⟩ := hS'
                go_simp
                try rfl
              try simp only [List.getElem_toArray, List.getElem_cons_zero, List.getElem_cons_succ, Act.put, List.setIfInBounds_toArray, List.set_cons_zero, List.set_cons_succ]
              clear hS
              refine wpAnyH_done (by kernel_rfl) ?_ _
              simp only [LastQ]
              unfold NormQ
              have e0 := HT9.out.cell (i := 3) rfl
              have ef := HT9.out.free 3
              have HT10 := Lib.hid (HT9.out.put 3 (.slice (some ⟨g, 0, none⟩) (j + 1) cap))
              have HO10 := Lib.hid (owns_setCell ho (owns_ne ho HT9.out (by decide)) 3 (.slice (some ⟨g, 0, none⟩) (j + 1) cap))
              have hoj9 := owns_grown (owns_keep HOJ.out HQ2.out) hg (by
                cases hb : (Value.slice JV jl.length jc2).ownBlock with
                | none => exact .inl rfl
                | some q =>
                  refine .inr fun e => ?_
                  have h1 := HJB2.out q hb
                  have h2 := (hq0.lt q e.symm).1
                  omega)
              have HOJ10 := Lib.hid (owns_setCell hoj9 (owns_ne hoj9 HT9.out (by decide)) 3 (.slice (some ⟨g, 0, none⟩) (j + 1) cap))
              have HSZ10 : Hid (wj.heap.size ≤ (w9.setCell ⟨wo.heap.size, 3, none⟩ (.slice (some ⟨g, 0, none⟩) (j + 1) cap)).heap.size) := Lib.hid (by
                have h1 := Nat.le_trans hbs hg.size
                have h2 : (w9.setCell ⟨wo.heap.size, 3, none⟩ (.slice (some ⟨g, 0, none⟩) (j + 1) cap)).heap.size = w9.heap.size := by simp [World.setCell]
                omega)
              have HN10 := Lib.hid (HN9.out.setCell (p := ⟨wo.heap.size, 3, none⟩) (by show wo.heap.size ≤ wo.heap.size; exact Nat.le_refl _) (.slice (some ⟨g, 0, none⟩) (j + 1) cap))
              clear ho hg hat hlt9 hq0 hbs HN9 HT9 HSD HQ2 hoj9
              go_wp2_with fail
              clear e0 ef
              go_roundw
              case rel => exact ⟨j + 1, some ⟨g, 0, none⟩, cap, by omega, by go_num, HN10.out, HT10.out, HOJ10.out, by rw [HMV.out, HXS.out]; exact HO10.out, HSZ10.out⟩
              case measure => simp [intOf]; omega
            · obtain rfl : j = ul.length := by omega
              have HOU : Hid (wr.ownsRow wj.heap.size 3 1 (.slice UV ul.length uc2) ul.length (mvI by' ul)) := Lib.hid (by have := HOW.out; rwa [List.take_length] at this)
              clear HOW
              have hy := HP2.out.keep HN2.out
              have y0 := hy.cell (i := 0) rfl
              have t0 := HT2.out.cell (i := 0) rfl
              have t1 := HT2.out.cell (i := 1) rfl
              have t2 := HT2.out.cell (i := 2) rfl
              have t3 := HT2.out.cell (i := 3) rfl
              have HY := Lib.hid hy
              obtain ⟨Jf, Uf, h1, h2⟩ := HTO.out
              have HNA := Lib.hid ((New.refl wr).alloc (.cells #[.int .i64 sl, .int .i64 dr, .slice JV jl.length jc2, .slice UV ul.length uc2] 30))
              have H1 := Lib.hid (owns_keep h1 (HN2.out.trans HNA.out))
              have H2 : Hid (∀ i, i < k → _) := Lib.hid fun i hi => And.intro (owns_keep (h2 i hi).1 (HN2.out.trans HNA.out)) (owns_keep (h2 i hi).2 (HN2.out.trans HNA.out))
              have HWW : Hid (w.heap.size ≤ wo.heap.size ∧ w.heap.size ≤ wj.heap.size) := Lib.hid (by have := HNR.out.size; have := HJW.out; omega)
              have H3 := Lib.hid (owns_base (owns_keep HOJ.out HNA.out) HWW.out.1)
              have H4 := Lib.hid (owns_base (owns_keep HOU.out HNA.out) HWW.out.2)
              have hb1 : w.heap.size ≠ w.heap.size + 1 + 1 := by omega
              have hb2 : w.heap.size + 1 ≠ w.heap.size + 1 + 1 := by omega
              have hbs : w.heap.size ≤ (wr.alloc (.cells #[.int .i64 sl, .int .i64 dr, .slice JV jl.length jc2, .slice UV ul.length uc2] 30)).heap.size := (HNR.out.trans (HN2.out.trans HNA.out)).size
              have HTC : Hid (trkC s (fun i => if i = k then .slice JV jl.length jc2 else Jf i) (fun i => if i = k then .slice UV ul.length uc2 else Uf i) (k + 1) = trkC s Jf Uf k ++ [.int .i64 sl, .int .i64 dr, .slice JV jl.length jc2, .slice UV ul.length uc2]) := Lib.hid (by
                rw [trkC_succ, HTE.out.1, HTE.out.2.1, if_pos rfl, if_pos rfl, trkC_congr (J' := Jf) (U' := Uf) (fun i hi => ⟨if_neg (by omega), if_neg (by omega)⟩)])
              clear hy h1 h2
              generalize hxs : trkC s Jf Uf k = xs at *
              clear hxs
              go_wp2_with (at_builtin; go_loud (refine wpList_append_lies _ rfl (.tmp 96) (.tmp 98) 22 rfl w.heap.size 30 i1 (.agg #[.int .i64 0, .int .i64 0, .slice none 0 0, .slice none 0 0]) 4 64 under_tracks4 HI.out.2.1.1 HI.out.2.1.2.1 HI.out.2.1.2.2.1 HI.out.2.1.2.2.2 rfl (by decide) (.slice VA k vc) k xs rfl H1.out ⟨wr.heap.size, 0, none⟩ 1 1 [.int .i64 sl, .int .i64 dr, .slice JV jl.length jc2, .slice UV ul.length uc2] rfl rfl ?c1 ?c2 (by decide) ?c3 ?c4 ?c5 _ rfl ?_))
              case c1 => exact World.news_of_block (cs := #[.int .i64 sl, .int .i64 dr, .slice JV jl.length jc2, .slice UV ul.length uc2]) (heap_alloc_new wr _)
              case c2 => simp [Value.oneCell']
              case c3 => unfold maxLen; omega
              case c4 => omega
              case c5 => exact hbs
              intro g cap w9 ho hg _ _
              obtain ⟨b1, b2, b3, b4, b5⟩ := push_all (tN := 25) 0 H1.out hg ho (HY.out.keep HNA.out) (by decide)
              have e0 := b1.cell (i := 0) rfl
              have ef := b1.free 0
              have HX0 := Lib.hid (b4 _ _ _ (HP0.out.keep (HN2.out.trans HNA.out)) hb1 (by decide))
              have HX1 := Lib.hid (b4 _ _ _ (HP1.out.keep (HN2.out.trans HNA.out)) hb2 (by decide))
              have HX2 := Lib.hid b2
              have HX3 := Lib.hid b3
              have HX4 : Hid (∀ i, i < k → _) := Lib.hid fun i hi => And.intro (b5 _ _ _ _ _ _ (H2.out i hi).1 (by decide) (by decide)) (b5 _ _ _ _ _ _ (H2.out i hi).2 (by decide) (by decide))
              have HX5 := Lib.hid (b5 _ _ _ _ _ _ H3.out (by decide) (by decide))
              have HX6 := Lib.hid (b5 _ _ _ _ _ _ H4.out (by decide) (by decide))
              have HN10 := Lib.hid ((Below.trans (HNR.out.trans (HN2.out.trans HNA.out)) (grown_below H1.out hg hbs) : New w w9).setCell (p := ⟨w.heap.size + 1 + 1, 0, none⟩) (by show w.heap.size ≤ w.heap.size + 1 + 1; omega) (.slice (some ⟨g, 0, none⟩) (k + 1) cap))
              clear b1 b2 b3 b4 b5 ho hg y0 t0 t1 t2 t3 hbs H1 H2 H3 H4 c0 z3
              go_wp2_with fail
              clear e0 ef
              go_roundw
              case rel =>
                refine ⟨k + 1, some ⟨g, 0, none⟩, cap, by omega, by go_num, HN10.out, HX0.out, HX1.out, HX2.out, (fun i => if i = k then .slice JV jl.length jc2 else Jf i), (fun i => if i = k then .slice UV ul.length uc2 else Uf i), by rw [HTC.out]; exact HX3.out, fun i hi => ?_⟩
                by_cases e : i = k
                · subst e
                  dsimp only
                  rw [if_pos rfl, if_pos rfl, HTE.out.2.2.1, HTE.out.2.2.2]
                  exact ⟨HX5.out, HX6.out⟩
                · dsimp only
                  rw [if_neg e, if_neg e]
                  exact HX4.out i (by omega)
              case measure => simp [intOf]; omega
    · obtain rfl : k = s.tracks.length := by omega
      have c1 := p0.cell (i := 1) rfl
      clear hn p0 p1 p2 ho
      have hw0 : IntKind.i64.wrap ((s.ties.length : Int) - 1) = (s.ties.length : Int) - 1 := IntWalk.i64_in _ (by omega)
      have HTI := Lib.hid HM.out.2
      clear HM
      generalize hnn : s.tracks.length = m at *
      generalize hmm : s.ties.length = nt at *
      have HNN := Lib.hid hnn
      have HMM := Lib.hid hmm
      clear hnn hmm hk hlt
      go_wp2_with fail
      clear c0 c1 hw0
      go_loopw [10] (fun i w' => ∃ (q : Nat) (UV : Option Addr) (uc : Nat), q ≤ nt ∧ i = .int .i64 ((nt : Int) - 1 - q) ∧ New w w' ∧ RowIs w' w.heap.size 25 [.slice A m c, .slice D nt d, .int .i64 s.window] ∧ RowIs w' (w.heap.size + 1) 25 [.slice none 0 0, .slice none 0 0, .int .i64 0] ∧ RowIs w' (w.heap.size + 1 + 1) 25 [.slice VA m vc, .slice UV q uc, .int .i64 s.window] ∧ w'.ownsRow w.heap.size 79 4 (.slice UV q uc) q (tisV (s.ties.reverse.take q)) ∧ TkO w' w.heap.size (.slice VA m vc) s by' m) (fun i _ => (intOf i + 1).toNat)
      case atStart => exact ⟨0, none, 0, Nat.zero_le _, by simp, HNR.out, HP0.out, HP1.out, HP2.out, World.ownsRow_nil _ _ _ _, HTO.out⟩
      case round =>
        obtain ⟨q, UV, uc, hq, rfl, hn, p0, p1, p2, hot, hto⟩ := hrel
        clear HNR HP0 HP1 HP2 HTO
        have HN2 := Lib.hid hn
        have HQ0 := Lib.hid p0
        have HQ1 := Lib.hid p1
        have HQ2 := Lib.hid p2
        have HOT := Lib.hid hot
        have HTO := Lib.hid hto
        clear hn p0 p1 p2 hot hto
        by_cases hqt : q < nt
        · have ein : ((nt : Int) - 1 - q) = ((nt - 1 - q : Nat) : Int) := by omega
          rw [ein]
          clear ein
          obtain ⟨tb, to, rfl, -, htc⟩ := HTI.out.2 (by rw [HMM.out]; omega)
          have htq := htc (nt - 1 - q) (by rw [HMM.out]; omega)
          have HSU : Hid (tisV (s.ties.reverse.take (q + 1)) = tisV (s.ties.reverse.take q) ++ tiCs (s.ties[nt - 1 - q]?.getD default)) := Lib.hid (by
            unfold tisV
            rw [List.take_succ_eq_append_getElem (by rw [List.length_reverse, HMM.out]; exact hqt), List.flatMap_append, List.getElem_reverse, List.getElem?_eq_getElem (by rw [HMM.out]; omega)]
            simp [HMM.out])
          clear htc
          generalize s.ties[nt - 1 - q]?.getD default = ti at *
          have hp1 : ((nt - 1 - q : Nat) : Int) < (nt : Int) := by omega
          have HPE : Hid (((nt - 1 - q : Nat) : Int) - 1 = (nt : Int) - 1 - ((q + 1 : Nat) : Int)) := Lib.hid (by omega)
          have hwd : IntKind.i64.wrap (((nt - 1 - q : Nat) : Int) - 1) = ((nt - 1 - q : Nat) : Int) - 1 := IntWalk.i64_in _ (by omega)
          have HME : Hid ((((nt - 1 - q : Nat) : Int) - 1 + 1).toNat < (((nt - 1 - q : Nat) : Int) + 1).toNat) := Lib.hid (by omega)
          generalize nt - 1 - q = p at *
          obtain ⟨⟨al, an⟩, ⟨bl, bn⟩⟩ := ti
          obtain ⟨y0, y1, y2, y3⟩ := htq
          dsimp only at y0 y1 y2 y3
          have HSD : Hid (∀ w', New w w' → RowIs w' w.heap.size 25 [.slice A m c, .slice (some ⟨tb, to, none⟩) nt d, .int .i64 s.window] → RowIs w' (w.heap.size + 1 + 1) 25 [.slice VA m vc, .slice UV q uc, .int .i64 s.window] → (fun w' => w'.cell? ⟨w.heap.size + 1 + 1, 1, none⟩ = some (.slice UV q uc) ∧ w'.cell? ⟨w.heap.size, 1, none⟩ = some (.slice (some ⟨tb, to, none⟩) nt d) ∧ w'.cell? ⟨tb, to + p * 4, none⟩ = some (.int .i64 al) ∧ w'.cell? ⟨tb, to + p * 4 + 1, none⟩ = some (.int .i64 an) ∧ w'.cell? ⟨tb, to + p * 4 + 2, none⟩ = some (.int .i64 bl) ∧ w'.cell? ⟨tb, to + p * 4 + 3, none⟩ = some (.int .i64 bn)) w') := Lib.hid fun w' h1 h2 h3 => ⟨h3.cell rfl, h2.cell rfl, h1.cellOf y0, h1.cellOf y1, h1.cellOf y2, h1.cellOf y3⟩
          dsimp only at HSD
          have HQQ := Lib.hid ((New.refl wr).drew.alloc (.cells #[.int .i64 al, .int .i64 an, .int .i64 bl, .int .i64 bn] 79))
          have hq0 := owns_keep HOT.out HQQ.out
          have hbs : w.heap.size ≤ (wr.drew.alloc (.cells #[.int .i64 al, .int .i64 an, .int .i64 bl, .int .i64 bn] 79)).heap.size := (HN2.out.trans HQQ.out).size
          have hjl3 : q + 1 ≤ maxLen := by unfold maxLen; omega
          have hb1 : w.heap.size ≠ w.heap.size + 1 + 1 := by omega
          have hb2 : w.heap.size + 1 ≠ w.heap.size + 1 + 1 := by omega
          obtain ⟨xs, hxs⟩ : ∃ xs, tisV (s.ties.reverse.take q) = xs := ⟨_, rfl⟩
          have HXS := Lib.hid hxs
          rw [hxs] at hq0
          clear hxs y0 y1 y2 y3
          have i0p : (0 : Int) ≤ (p : Int) := by omega
          go_wp2_with fail
          refine region_plain (by kernel_rfl) (wpAny_lastL (S := (fun w' => w'.cell? ⟨w.heap.size + 1 + 1, 1, none⟩ = some (.slice UV q uc) ∧ w'.cell? ⟨w.heap.size, 1, none⟩ = some (.slice (some ⟨tb, to, none⟩) nt d) ∧ w'.cell? ⟨tb, to + p * 4, none⟩ = some (.int .i64 al) ∧ w'.cell? ⟨tb, to + p * 4 + 1, none⟩ = some (.int .i64 an) ∧ w'.cell? ⟨tb, to + p * 4 + 2, none⟩ = some (.int .i64 bl) ∧ w'.cell? ⟨tb, to + p * 4 + 3, none⟩ = some (.int .i64 bn))) rfl (by kernel_rfl) (by kernel_rfl) (by kernel_rfl) ?_)
          simp only [List.dropLast, List.length_cons, List.length_nil, Nat.reduceAdd]
          change wpAnyH _ _ _ _ _ _ _ _ wr.drew
          have hS : (fun w' => w'.cell? ⟨w.heap.size + 1 + 1, 1, none⟩ = some (.slice UV q uc) ∧ w'.cell? ⟨w.heap.size, 1, none⟩ = some (.slice (some ⟨tb, to, none⟩) nt d) ∧ w'.cell? ⟨tb, to + p * 4, none⟩ = some (.int .i64 al) ∧ w'.cell? ⟨tb, to + p * 4 + 1, none⟩ = some (.int .i64 an) ∧ w'.cell? ⟨tb, to + p * 4 + 2, none⟩ = some (.int .i64 bl) ∧ w'.cell? ⟨tb, to + p * 4 + 3, none⟩ = some (.int .i64 bn)) wr.drew := HSD.out _ HN2.out.drew HQ0.out.drew HQ2.out.drew
          refine wpAnyH_take (i := 0) (v := ?_) rfl (by kernel_rfl) (by kernel_rfl) (by kernel_rfl) (fun _ _ _ h => h) (Or.inl ⟨by rfl, fun w' hS' => ?_⟩) hS ?_
          rotate_left
          · obtain ⟨s0, s1, s2, s3, s4, s5⟩ := hS'
            go_simp
            try rfl
          try simp only [List.getElem_toArray, List.getElem_cons_zero, Act.put, List.setIfInBounds_toArray, List.set_cons_zero, List.set_cons_succ]
          refine wpAnyH_take (i := 1) (v := ?_) rfl (by kernel_rfl) (by kernel_rfl) (by kernel_rfl) (fun _ _ _ h => h) (Or.inl ⟨by rfl, fun w' hS' => ?_⟩) hS ?_
          rotate_left
          · obtain ⟨s0, s1, s2, s3, s4, s5⟩ := hS'
            go_simp
            try rfl
          try simp only [List.getElem_toArray, List.getElem_cons_zero, List.getElem_cons_succ, Act.put, List.setIfInBounds_toArray, List.set_cons_zero, List.set_cons_succ]
          refine wpAnyH_take (i := 2) (v := ?_) rfl (by kernel_rfl) (by kernel_rfl) (by kernel_rfl) (fun _ _ _ h => h) (Or.inl ⟨by rfl, fun w' hS' => ?_⟩) hS ?_
          rotate_left
          · obtain ⟨s0, s1, s2, s3, s4, s5⟩ := hS'
            go_simp
            try rfl
          try simp only [List.getElem_toArray, List.getElem_cons_zero, List.getElem_cons_succ, Act.put, List.setIfInBounds_toArray, List.set_cons_zero, List.set_cons_succ]
          refine wpAnyH_take (i := 3) (v := ?_) rfl (by kernel_rfl) (by kernel_rfl) (by kernel_rfl) (fun _ _ _ h => h) (Or.inl ⟨by rfl, fun w' hS' => ?_⟩) hS ?_
          rotate_left
          · obtain ⟨s0, s1, s2, s3, s4, s5⟩ := hS'
            go_simp
            try rfl
          try simp only [List.getElem_toArray, List.getElem_cons_zero, List.getElem_cons_succ, Act.put, List.setIfInBounds_toArray, List.set_cons_zero, List.set_cons_succ]
          refine wpAnyH_take (i := 4) (v := ?_) rfl (by kernel_rfl) (by kernel_rfl) (by kernel_rfl) (fun _ _ _ h => h) (Or.inl ⟨by rfl, fun w' hS' => ?_⟩) hS ?_
          rotate_left
          · obtain ⟨s0, s1, s2, s3, s4, s5⟩ := hS'
            go_simp
            try rfl
          try simp only [List.getElem_toArray, List.getElem_cons_zero, List.getElem_cons_succ, Act.put, List.setIfInBounds_toArray, List.set_cons_zero, List.set_cons_succ]
          refine wpAnyH_take (i := 5) (v := ?_) rfl (by kernel_rfl) (by kernel_rfl) (by kernel_rfl) (fun _ _ _ h => h) (Or.inl ⟨by rfl, fun w' hS' => ?_⟩) hS ?_
          rotate_left
          · obtain ⟨s0, s1, s2, s3, s4, s5⟩ := hS'
            go_simp
            try rfl
          try simp only [List.getElem_toArray, List.getElem_cons_zero, List.getElem_cons_succ, Act.put, List.setIfInBounds_toArray, List.set_cons_zero, List.set_cons_succ]
          refine wpAnyH_take (i := 6) (v := ?_) rfl (by kernel_rfl) (by kernel_rfl) (by kernel_rfl) (fun _ _ _ h => h) (Or.inl ⟨by rfl, fun w' hS' => ?_⟩) hS ?_
          rotate_left
          · obtain ⟨s0, s1, s2, s3, s4, s5⟩ := hS'
            go_simp
            try rfl
          try simp only [List.getElem_toArray, List.getElem_cons_zero, List.getElem_cons_succ, Act.put, List.setIfInBounds_toArray, List.set_cons_zero, List.set_cons_succ]
          clear hS
          refine wpAnyH_ready (rs := [7]) (by kernel_rfl) (by simp) ?_
          refine AllReadyH.cons rfl (fun K hK => ?_) AllReadyH.nil
          go_simp
          refine hK.out _ _ (HSD.out _ (HN2.out.trans HQQ.out) (HQ0.out.keep HQQ.out) (HQ2.out.keep HQQ.out)) (fun hS => ?_)
          clear hK K
          try simp only [List.getElem_toArray, List.getElem_cons_zero, List.getElem_cons_succ, Act.put, List.setIfInBounds_toArray, List.set_cons_zero, List.set_cons_succ]
          clear hS
          refine wpAnyH_ready (rs := [8]) (by kernel_rfl) (by simp) ?_
          refine AllReadyH.cons rfl (fun K hK => ?_) AllReadyH.nil
          refine step_append_lies _ rfl (.tmp 110) (.tmp 116) 23 rfl w.heap.size 79 i2 (.agg #[.int .i64 0, .int .i64 0, .int .i64 0, .int .i64 0]) 4 32 under_ties4 HI.out.2.2.1 HI.out.2.2.2.1 HI.out.2.2.2.2.1 HI.out.2.2.2.2.2 rfl (by decide) (.slice UV q uc) q _ rfl hq0 ⟨wr.drew.heap.size, 0, none⟩ 1 1 [.int .i64 al, .int .i64 an, .int .i64 bl, .int .i64 bn] rfl rfl (World.news_of_block (cs := #[.int .i64 al, .int .i64 an, .int .i64 bl, .int .i64 bn]) (heap_alloc_new _ _)) (by simp [Value.oneCell']) (by decide) hjl3 (by omega) hbs _ rfl ?_
          intro g cap w9 ho hg hat hlt9
          have HN9 : Hid (New w w9) := Lib.hid (Below.trans (HN2.out.trans HQQ.out) (grown_below hq0 hg hbs))
          have HB1 := Lib.hid (push_all (tN := 25) 1 hq0 hg ho (HQ2.out.keep HQQ.out) (by decide))
          have HS9 := Lib.hid ((HQ0.out.keep HQQ.out).grown hg (owns_ne hq0 (HQ0.out.keep HQQ.out) (by decide)))
          refine hK.out _ _ (HSD.out _ HN9.out HS9.out HB1.out.1) (fun hS => ?_)
          clear hK K
          try simp only [List.getElem_toArray, List.getElem_cons_zero, List.getElem_cons_succ, Act.put, List.setIfInBounds_toArray, List.set_cons_zero, List.set_cons_succ]
          refine wpAnyH_take (i := 9) (v := ?_) rfl (by kernel_rfl) (by kernel_rfl) (by kernel_rfl) (fun _ _ _ h => h) (Or.inl ⟨by rfl, fun w' hS' => ?_⟩) hS ?_
          rotate_left
          · obtain ⟨s0, s1, s2, s3, s4, s5⟩ := hS'
            go_simp
            try rfl
          try simp only [List.getElem_toArray, List.getElem_cons_zero, List.getElem_cons_succ, Act.put, List.setIfInBounds_toArray, List.set_cons_zero, List.set_cons_succ]
          clear hS
          refine wpAnyH_done (by kernel_rfl) ?_ _
          simp only [LastQ]
          unfold NormQ
          have e0 := HB1.out.1.cell (i := 1) rfl
          have ef := HB1.out.1.free 1
          have HX0 := Lib.hid (HB1.out.2.2.2.1 _ _ _ (HQ0.out.keep HQQ.out) hb1 (by decide))
          have HX1 := Lib.hid (HB1.out.2.2.2.1 _ _ _ (HQ1.out.keep HQQ.out) hb2 (by decide))
          have HX2 := Lib.hid HB1.out.2.1
          have HX3 := Lib.hid HB1.out.2.2.1
          have HX4 : Hid (TkO (w9.setCell ⟨w.heap.size + 1 + 1, 1, none⟩ (.slice (some ⟨g, 0, none⟩) (q + 1) cap)) w.heap.size (.slice VA m vc) s by' m) := Lib.hid (by
            obtain ⟨J, U, h1, h2⟩ := HTO.out
            exact ⟨J, U, HB1.out.2.2.2.2 _ _ _ _ _ _ (owns_keep h1 HQQ.out) (by decide) (by decide), fun i hi => ⟨HB1.out.2.2.2.2 _ _ _ _ _ _ (owns_keep (h2 i hi).1 HQQ.out) (by decide) (by decide), HB1.out.2.2.2.2 _ _ _ _ _ _ (owns_keep (h2 i hi).2 HQQ.out) (by decide) (by decide)⟩⟩)
          have HN10 := Lib.hid (HN9.out.setCell (p := ⟨w.heap.size + 1 + 1, 1, none⟩) (by show w.heap.size ≤ w.heap.size + 1 + 1; omega) (.slice (some ⟨g, 0, none⟩) (q + 1) cap))
          clear ho hg hat hlt9 hq0 hbs HN9 HSD HQQ HB1
          go_wp2_with fail
          clear e0 ef
          go_roundw
          case rel => exact ⟨q + 1, some ⟨g, 0, none⟩, cap, by omega, by rw [← HPE.out], HN10.out, HX0.out, HX1.out, HX2.out, by rw [HSU.out, HXS.out]; exact HX3.out, HX4.out⟩
          case measure => exact HME.out
        · obtain rfl : q = nt := by omega
          have ein : ((q : Int) - 1 - q) = -1 := by omega
          rw [ein]
          have y0 := HQ2.out.cell (i := 0) rfl
          have y1 := HQ2.out.cell (i := 1) rfl
          have y2 := HQ2.out.cell (i := 2) rfl
          have x0 := HQ1.out.cell (i := 0) rfl
          have x1 := HQ1.out.cell (i := 1) rfl
          have x2 := HQ1.out.cell (i := 2) rfl
          have f0 := HQ1.out.free 0
          have f1 := HQ1.out.free 1
          have f2 := HQ1.out.free 2
          have HR := Lib.hid (((HQ1.out.put 0 (.slice VA m vc)).put 1 (.slice UV q uc)).put 2 (.int .i64 s.window))
          have HNW := Lib.hid (((HN2.out.setCell (p := ⟨w.heap.size + 1, 0, none⟩) (by show w.heap.size ≤ w.heap.size + 1; omega) (.slice VA m vc)).setCell (p := ⟨w.heap.size + 1, 1, none⟩) (by show w.heap.size ≤ w.heap.size + 1; omega) (.slice UV q uc)).setCell (p := ⟨w.heap.size + 1, 2, none⟩) (by show w.heap.size ≤ w.heap.size + 1; omega) (.int .i64 s.window))
          have HT9 := Lib.hid (((HTO.out.set HQ1.out 0 (.slice VA m vc)).set (HQ1.out.put 0 (.slice VA m vc)) 1 (.slice UV q uc)).set ((HQ1.out.put 0 (.slice VA m vc)).put 1 (.slice UV q uc)) 2 (.int .i64 s.window))
          have ho1 := owns_setCell HOT.out (owns_ne HOT.out HQ1.out (by decide)) 0 (.slice VA m vc)
          have ho2 := owns_setCell ho1 (owns_ne ho1 (HQ1.out.put 0 (.slice VA m vc)) (by decide)) 1 (.slice UV q uc)
          have HO9 := Lib.hid (owns_setCell ho2 (owns_ne ho2 ((HQ1.out.put 0 (.slice VA m vc)).put 1 (.slice UV q uc)) (by decide)) 2 (.int .i64 s.window))
          clear ho1 ho2
          clear ein
          go_wp2_with fail
          clear y0 y1 y2 x0 x1 x2 f0 f1 f2
          have e0 := HR.out.cell (i := 0) rfl
          have e1 := HR.out.cell (i := 1) rfl
          have e2 := HR.out.cell (i := 2) rfl
          generalize ((wr.setCell ⟨w.heap.size + 1, 0, none⟩ (.slice VA m vc)).setCell ⟨w.heap.size + 1, 1, none⟩ (.slice UV q uc)).setCell ⟨w.heap.size + 1, 2, none⟩ (.int .i64 s.window) = W9 at *
          refine bodyPost_ret (v := .agg #[.slice VA m vc, .slice UV q uc, .int .i64 s.window]) (by simp [results, Tryd.results63]; go_simp) rfl ?_
          refine ⟨VA, vc, UV, uc, by rw [HNN.out, HMM.out], HNW.out, TkO.tks (base := w.heap.size) (c := vc) (by rw [HNN.out]; exact HT9.out), ?_⟩
          have := HO9.out
          rw [List.take_of_length_le (by rw [List.length_reverse, HMM.out]; exact Nat.le_refl _)] at this
          exact owns_tis this
end Go.Proofs.YtodmbcoobjcooaaDoor

namespace Go.Proofs.YtodmbcoobjcooaaDoor
open Go Go.RowKit Go.Shelf
open Go.ChangeShapes Go.WideShapes Go.ChangeAt Go.Deep
attribute [local go_sem] Oper.semAt_some
def mvR (b : Int) (l : List (List Spn)) : List (List Spn) := l.map fun r => r.map fun x => (x.1 + b, x.2 + b)
theorem mvR_len (b : Int) (l : List (List Spn)) : (mvR b l).length = l.length := by simp [mvR]
theorem mvR_row {b : Int} {l : List (List Spn)} {i : Nat} (hi : i < l.length) : (mvR b l)[i]?.getD [] = (l[i]?.getD []).map fun x => (x.1 + b, x.2 + b) := by
  unfold mvR
  rw [List.getElem?_map, List.getElem?_eq_getElem hi]
  rfl
theorem mv_at {b : Int} {r : List Spn} {j : Nat} (hj : j < r.length) : (r.map fun x : Spn => ((x.1 + b, x.2 + b) : Spn))[j]?.getD (0, 0) = ((r[j]?.getD (0, 0)).1 + b, (r[j]?.getD (0, 0)).2 + b) := by
  rw [List.getElem?_map, List.getElem?_eq_getElem hj]
  rfl
theorem tmR_in (s : Sy) : ∀ i, i < (tmR s).length → ∀ j, j < ((tmR s)[i]?.getD []).length → (-600000000 ≤ (((tmR s)[i]?.getD [])[j]?.getD (0, 0)).1 ∧ (((tmR s)[i]?.getD [])[j]?.getD (0, 0)).1 ≤ 600000000) ∧ -600000000 ≤ (((tmR s)[i]?.getD [])[j]?.getD (0, 0)).2 ∧ (((tmR s)[i]?.getD [])[j]?.getD (0, 0)).2 ≤ 600000000 := by
  unfold tmR
  by_cases h : askE s [] = 0
  · rw [if_pos h]
    obtain ⟨hs, hc⟩ := ask_nil h
    rw [rowsK_len]
    intro i hi
    rw [rowsK_get _ _ hi, rowK_len]
    intro j hj
    rw [rowK_get _ _ hj]
    have hp := plc_lt (.inr (line_mk hi hj) : RefOk s ⟨i, j⟩)
    have a := mnW_in hs hc (nPl_pos s) hp
    have b := mnW_in hs hc hp (nPl_pos s)
    unfold loF hiF
    dsimp only
    omega
  · rw [if_neg h]
    intro i hi
    exact absurd hi (Nat.not_lt_zero i)
set_option maxRecDepth 100000 in
set_option maxHeartbeats 8000000 in
theorem law_moves (s : Sy) (by' : Int) (a b : Rf) (A D : Option Addr) (c d : Nat) (w : World) (hM : SysM w A D s) (hbeg : BegA w) :
    Calls Tryd.prog 14 #[.agg #[.slice A s.tracks.length c, .slice D s.ties.length d, .int .i64 s.window], .int .i64 by', .agg #[.int .i64 a.log, .int .i64 a.line], .agg #[.int .i64 b.log, .int .i64 b.line]] w fun e w' => e = .returned (.bool true) ∧ New w w' := by
  obtain ⟨al, an⟩ := a
  obtain ⟨bl, bn⟩ := b
  dsimp only
  have s0 := (New.refl w).alloc (.cells #[.slice A s.tracks.length c, .slice D s.ties.length d, .int .i64 s.window] 25)
  have s1 := (New.refl (w.alloc (.cells #[.slice A s.tracks.length c, .slice D s.ties.length d, .int .i64 s.window] 25))).alloc (.cells #[.int .i64 al, .int .i64 an] 53)
  have s2 := (New.refl ((w.alloc (.cells #[.slice A s.tracks.length c, .slice D s.ties.length d, .int .i64 s.window] 25)).alloc (.cells #[.int .i64 al, .int .i64 an] 53))).alloc (.cells #[.int .i64 bl, .int .i64 bn] 53)
  have nA := ((s0.trans s1).trans s2)
  have r0 := (RowIs.new w 25 [.slice A s.tracks.length c, .slice D s.ties.length d, .int .i64 s.window]).keep (s1.trans s2)
  have r1 := (RowIs.new (w.alloc (.cells #[.slice A s.tracks.length c, .slice D s.ties.length d, .int .i64 s.window] 25)) 53 [.int .i64 al, .int .i64 an]).keep s2
  have r2 := (RowIs.new ((w.alloc (.cells #[.slice A s.tracks.length c, .slice D s.ties.length d, .int .i64 s.window] 25)).alloc (.cells #[.int .i64 al, .int .i64 an] 53)) 53 [.int .i64 bl, .int .i64 bn])
  simp only [World.size_alloc] at r1 r2
  have HA0 := Lib.hid r0
  have HB0 := Lib.hid r1
  have HC0 := Lib.hid r2
  have HN0 := Lib.hid nA
  have HM := Lib.hid hM
  have HBG := Lib.hid hbeg
  have HAW := Lib.hid (law_awake _ ⟨nA.cellOf hbeg.1, nA.cellOf hbeg.2⟩)
  have HFW : Hid (∀ w', New w w' → _) := Lib.hid fun w' h => law_few s A D c d w' (hM.keep h)
  have HCK : Hid (∀ w', New w w' → _) := Lib.hid fun w' h => ck_Check s A D c d w' (hM.keep h)
  clear s0 s1 s2 nA r0 r1 r2 hM hbeg
  have c0 := HA0.out.cell (i := 0) rfl
  have c1 := HA0.out.cell (i := 1) rfl
  have c2 := HA0.out.cell (i := 2) rfl
  have d0 := HB0.out.cell (i := 0) rfl
  have d1 := HB0.out.cell (i := 1) rfl
  have g0 := HC0.out.cell (i := 0) rfl
  have g1 := HC0.out.cell (i := 1) rfl
  have q0 := HA0.out.lt
  have q1 := HB0.out.lt
  have q2 := HC0.out.lt
  go_enter Tryd.func14, Tryd.ntmps14
  go_wp2_with fail
  refine (HAW.out).mono ?_
  rintro e w1 ⟨rfl, z1⟩
  have HN1 := Lib.hid (HN0.out.trans z1)
  have HA1 := Lib.hid (HA0.out.keep z1)
  have HB1 := Lib.hid (HB0.out.keep z1)
  have HC1 := Lib.hid (HC0.out.keep z1)
  clear c0 c1 c2 d0 d1 g0 g1 q0 q1 q2 z1 HA0 HB0 HC0
  have c0 := HA1.out.cell (i := 0) rfl
  have c1 := HA1.out.cell (i := 1) rfl
  have c2 := HA1.out.cell (i := 2) rfl
  have d0 := HB1.out.cell (i := 0) rfl
  have d1 := HB1.out.cell (i := 1) rfl
  have g0 := HC1.out.cell (i := 0) rfl
  have g1 := HC1.out.cell (i := 1) rfl
  have q0 := HA1.out.lt
  have q1 := HB1.out.lt
  have q2 := HC1.out.lt
  go_wp2_with fail
  refine (HFW.out _ HN1.out).mono ?_
  rintro e w2 ⟨⟨fb, rfl⟩, z2⟩
  have HN2 := Lib.hid (HN1.out.trans z2)
  have HA2 := Lib.hid (HA1.out.keep z2)
  have HB2 := Lib.hid (HB1.out.keep z2)
  have HC2 := Lib.hid (HC1.out.keep z2)
  clear c0 c1 c2 d0 d1 g0 g1 q0 q1 q2 z2 HA1 HB1 HC1
  have c0 := HA2.out.cell (i := 0) rfl
  have c1 := HA2.out.cell (i := 1) rfl
  have c2 := HA2.out.cell (i := 2) rfl
  have d0 := HB2.out.cell (i := 0) rfl
  have d1 := HB2.out.cell (i := 1) rfl
  have g0 := HC2.out.cell (i := 0) rfl
  have g1 := HC2.out.cell (i := 1) rfl
  have q0 := HA2.out.lt
  have q1 := HB2.out.lt
  have q2 := HC2.out.lt
  cases fb with
  | false =>
    go_wp2_with fail
    go_ret
    exact ⟨rfl, HN2.out⟩
  | true =>
  by_cases b1 : by' < -20000
  · have b1' : decide (by' < -20000) = true := by simpa using b1
    go_wp2_with fail
    go_ret
    exact ⟨rfl, HN2.out⟩
  have b1' : decide (by' < -20000) = false := by simpa using b1
  by_cases b2 : 20000 < by'
  · have b2' : decide (20000 < by') = true := by simpa using b2
    go_wp2_with fail
    go_ret
    exact ⟨rfl, HN2.out⟩
  have b2' : decide (20000 < by') = false := by simpa using b2
  go_wp2_with fail
  refine (HCK.out _ HN2.out).mono ?_
  rintro e w3 ⟨rfl, z3⟩
  have HN3 := Lib.hid (HN2.out.trans z3)
  have HA3 := Lib.hid (HA2.out.keep z3)
  have HB3 := Lib.hid (HB2.out.keep z3)
  have HC3 := Lib.hid (HC2.out.keep z3)
  clear c0 c1 c2 d0 d1 g0 g1 q0 q1 q2 z3 HA2 HB2 HC2
  have c0 := HA3.out.cell (i := 0) rfl
  have c1 := HA3.out.cell (i := 1) rfl
  have c2 := HA3.out.cell (i := 2) rfl
  have d0 := HB3.out.cell (i := 0) rfl
  have d1 := HB3.out.cell (i := 1) rfl
  have g0 := HC3.out.cell (i := 0) rfl
  have g1 := HC3.out.cell (i := 1) rfl
  have q0 := HA3.out.lt
  have q1 := HB3.out.lt
  have q2 := HC3.out.lt
  clear b1' b2'
  by_cases he : checkE s = 0
  rotate_left
  · have hne : (checkE s != 0) = true := by simp [he]
    go_wp2_with fail
    go_ret
    exact ⟨rfl, HN3.out⟩
  have hs : Ok s := he
  have HS := Lib.hid hs
  rw [he]
  have HMV : Hid (∀ w', New w w' → _) := Lib.hid fun w' h => law_moved s hs by' ⟨by omega, by omega⟩ A D c d w' (HM.out.keep h)
  clear he hs HCK
  go_wp2_with fail
  refine (HMV.out _ HN3.out).mono ?_
  rintro e w4 ⟨A9, c9, D9, d9, rfl, z4, hm9⟩
  have na := (New.refl w4).alloc (.cells #[.slice A9 s.tracks.length c9, .slice D9 s.ties.length d9, .int .i64 s.window] 25)
  have HM4 := Lib.hid (RowIs.new w4 25 [.slice A9 s.tracks.length c9, .slice D9 s.ties.length d9, .int .i64 s.window])
  have HSM := Lib.hid (hm9.keep na)
  have zz := z4.trans na
  have HN4 := Lib.hid (HN3.out.trans zz)
  have HA4 := Lib.hid (HA3.out.keep zz)
  have HB4 := Lib.hid (HB3.out.keep zz)
  have HC4 := Lib.hid (HC3.out.keep zz)
  clear zz z4 na hm9 c0 c1 c2 d0 d1 g0 g1 q0 q1 q2 HA3 HB3 HC3
  have c0 := HA4.out.cell (i := 0) rfl
  have c1 := HA4.out.cell (i := 1) rfl
  have c2 := HA4.out.cell (i := 2) rfl
  have d0 := HB4.out.cell (i := 0) rfl
  have d1 := HB4.out.cell (i := 1) rfl
  have g0 := HC4.out.cell (i := 0) rfl
  have g1 := HC4.out.cell (i := 1) rfl
  have q0 := HA4.out.lt
  have q1 := HB4.out.lt
  have q2 := HC4.out.lt
  have u0 := HM4.out.cell (i := 0) rfl
  have u1 := HM4.out.cell (i := 1) rfl
  have u2 := HM4.out.cell (i := 2) rfl
  have q3 := HM4.out.lt
  have l1 : (movS s by').tracks.length = s.tracks.length := mov_len s by'
  have l2 : (movS s by').ties.length = s.ties.length := by show s.ties.reverse.length = _; rw [List.length_reverse]
  have l3 : (movS s by').window = s.window := rfl
  have HCM : Hid (∀ w', New (w4.alloc (.cells #[.slice A9 s.tracks.length c9, .slice D9 s.ties.length d9, .int .i64 s.window] 25)) w' → Calls Tryd.prog 25 #[.agg #[.slice A9 s.tracks.length c9, .slice D9 s.ties.length d9, .int .i64 s.window]] w' fun e w'' => e = .returned (.int .i64 (checkE (movS s by'))) ∧ New w' w'') := Lib.hid fun w' h => by
    have := ck_Check (movS s by') A9 D9 c9 d9 w' (HSM.out.keep h)
    rwa [l1, l2, l3] at this
  have HTM : Hid (∀ w', New (w4.alloc (.cells #[.slice A9 s.tracks.length c9, .slice D9 s.ties.length d9, .int .i64 s.window] 25)) w' → New w w' → Calls Tryd.prog 28 #[.agg #[.slice A9 s.tracks.length c9, .slice D9 s.ties.length d9, .int .i64 s.window]] w' fun e w'' => TmsA (movS s by') w' e w'') := Lib.hid fun w' h h2 => by
    have := pk_Times (movS s by') A9 D9 c9 d9 w' (HSM.out.keep h) ⟨h2.cellOf HBG.out.1, h2.cellOf HBG.out.2⟩
    rwa [l1, l2, l3] at this
  have HRM : Hid (∀ w', New (w4.alloc (.cells #[.slice A9 s.tracks.length c9, .slice D9 s.ties.length d9, .int .i64 s.window] 25)) w' → New w w' → Calls Tryd.prog 40 #[.agg #[.slice A9 s.tracks.length c9, .slice D9 s.ties.length d9, .int .i64 s.window], .agg #[.int .i64 al, .int .i64 an], .agg #[.int .i64 bl, .int .i64 bn]] w' fun e w'' => e = .returned (.tuple #[.agg #[.int .i64 (rlLo (movS s by') ⟨al, an⟩ ⟨bl, bn⟩), .int .i64 (rlHi (movS s by') ⟨al, an⟩ ⟨bl, bn⟩)], .int .i64 (askE (movS s by') [⟨al, an⟩, ⟨bl, bn⟩])]) ∧ New w' w'') := Lib.hid fun w' h h2 => by
    have := pk_Relation (movS s by') A9 D9 c9 d9 w' (HSM.out.keep h) ⟨h2.cellOf HBG.out.1, h2.cellOf HBG.out.2⟩ ⟨al, an⟩ ⟨bl, bn⟩
    rwa [l1, l2, l3] at this
  have HTS : Hid (∀ w', New w w' → _) := Lib.hid fun w' h => pk_Times s A D c d w' (HM.out.keep h) ⟨h.cellOf HBG.out.1, h.cellOf HBG.out.2⟩
  have HRL : Hid (∀ w', New w w' → Calls Tryd.prog 40 #[.agg #[.slice A s.tracks.length c, .slice D s.ties.length d, .int .i64 s.window], .agg #[.int .i64 al, .int .i64 an], .agg #[.int .i64 bl, .int .i64 bn]] w' fun e w'' => e = .returned (.tuple #[.agg #[.int .i64 (rlLo s ⟨al, an⟩ ⟨bl, bn⟩), .int .i64 (rlHi s ⟨al, an⟩ ⟨bl, bn⟩)], .int .i64 (askE s [⟨al, an⟩, ⟨bl, bn⟩])]) ∧ New w' w'') := Lib.hid fun w' h => pk_Relation s A D c d w' (HM.out.keep h) ⟨h.cellOf HBG.out.1, h.cellOf HBG.out.2⟩ ⟨al, an⟩ ⟨bl, bn⟩
  clear l1 l2 l3 HSM
  have HW4 := Lib.hid (New.refl (w4.alloc (.cells #[.slice A9 s.tracks.length c9, .slice D9 s.ties.length d9, .int .i64 s.window] 25)))
  go_wp2_with fail
  generalize hmp : w4.heap.size = mp at *
  clear hmp
  generalize w4.alloc (.cells #[.slice A9 s.tracks.length c9, .slice D9 s.ties.length d9, .int .i64 s.window] 25) = w40 at *
  refine (HCM.out _ HW4.out).mono ?_
  rintro e w5 ⟨rfl, z5⟩
  have HW5 := Lib.hid (HW4.out.trans z5)
  have HN5 := Lib.hid (HN4.out.trans z5)
  have HA5 := Lib.hid (HA4.out.keep z5)
  have HB5 := Lib.hid (HB4.out.keep z5)
  have HC5 := Lib.hid (HC4.out.keep z5)
  have HM5 := Lib.hid (HM4.out.keep z5)
  clear c0 c1 c2 d0 d1 g0 g1 q0 q1 q2 u0 u1 u2 q3 z5 HA4 HB4 HC4 HM4
  have c0 := HA5.out.cell (i := 0) rfl
  have c1 := HA5.out.cell (i := 1) rfl
  have c2 := HA5.out.cell (i := 2) rfl
  have d0 := HB5.out.cell (i := 0) rfl
  have d1 := HB5.out.cell (i := 1) rfl
  have g0 := HC5.out.cell (i := 0) rfl
  have g1 := HC5.out.cell (i := 1) rfl
  have q0 := HA5.out.lt
  have q1 := HB5.out.lt
  have q2 := HC5.out.lt
  have u0 := HM5.out.cell (i := 0) rfl
  have u1 := HM5.out.cell (i := 1) rfl
  have u2 := HM5.out.cell (i := 2) rfl
  have q3 := HM5.out.lt
  by_cases he : checkE (movS s by') = 0
  rotate_left
  · have hne : (checkE (movS s by') != 0) = true := by simp [he]
    go_wp2_with fail
    go_ret
    exact ⟨rfl, HN5.out⟩
  have hm : Ok (movS s by') := he
  have HK2 : Hid (tmR (movS s by') = mvR by' (tmR s)) := Lib.hid (mov_tmR HS.out hm)
  have HK3 : Hid (askE (movS s by') [] = askE s []) := Lib.hid (mov_ask HS.out hm [])
  have HK4 := Lib.hid (mov_rl HS.out hm ⟨al, an⟩ ⟨bl, bn⟩)
  have HK5 : Hid (askE (movS s by') [⟨al, an⟩, ⟨bl, bn⟩] = askE s [⟨al, an⟩, ⟨bl, bn⟩]) := Lib.hid (mov_ask HS.out hm _)
  have HIN := Lib.hid (tmR_in s)
  rw [he]
  rw [HK4.out.1, HK4.out.2, HK5.out] at HRM
  clear he hm HCM HK4 HK5
  go_wp2_with fail
  refine (HTS.out _ HN5.out).mono ?_
  rintro e w6 ⟨B1, bc1, rfl, z6, hb1⟩
  have HW6 := Lib.hid (HW5.out.trans z6)
  have HP1 := Lib.hid hb1
  clear hb1
  have HN6 := Lib.hid (HN5.out.trans z6)
  have HA6 := Lib.hid (HA5.out.keep z6)
  have HB6 := Lib.hid (HB5.out.keep z6)
  have HC6 := Lib.hid (HC5.out.keep z6)
  have HM6 := Lib.hid (HM5.out.keep z6)
  clear c0 c1 c2 d0 d1 g0 g1 q0 q1 q2 u0 u1 u2 q3 z6 HA5 HB5 HC5 HM5
  have c0 := HA6.out.cell (i := 0) rfl
  have c1 := HA6.out.cell (i := 1) rfl
  have c2 := HA6.out.cell (i := 2) rfl
  have d0 := HB6.out.cell (i := 0) rfl
  have d1 := HB6.out.cell (i := 1) rfl
  have g0 := HC6.out.cell (i := 0) rfl
  have g1 := HC6.out.cell (i := 1) rfl
  have q0 := HA6.out.lt
  have q1 := HB6.out.lt
  have q2 := HC6.out.lt
  have u0 := HM6.out.cell (i := 0) rfl
  have u1 := HM6.out.cell (i := 1) rfl
  have u2 := HM6.out.cell (i := 2) rfl
  have q3 := HM6.out.lt
  go_wp2_with fail
  refine (HTM.out _ HW6.out HN6.out).mono ?_
  rintro e w7 ⟨B2, bc2, rfl, z7, hb2⟩
  have HW7 := Lib.hid (HW6.out.trans z7)
  rw [HK2.out] at hb2
  rw [HK2.out, HK3.out, mvR_len]
  have HP2 := Lib.hid hb2
  replace HP1 := Lib.hid (HP1.out.keep z7)
  clear hb2
  have HN7 := Lib.hid (HN6.out.trans z7)
  have HA7 := Lib.hid (HA6.out.keep z7)
  have HB7 := Lib.hid (HB6.out.keep z7)
  have HC7 := Lib.hid (HC6.out.keep z7)
  have HM7 := Lib.hid (HM6.out.keep z7)
  clear c0 c1 c2 d0 d1 g0 g1 q0 q1 q2 u0 u1 u2 q3 z7 HA6 HB6 HC6 HM6
  have c0 := HA7.out.cell (i := 0) rfl
  have c1 := HA7.out.cell (i := 1) rfl
  have c2 := HA7.out.cell (i := 2) rfl
  have d0 := HB7.out.cell (i := 0) rfl
  have d1 := HB7.out.cell (i := 1) rfl
  have g0 := HC7.out.cell (i := 0) rfl
  have g1 := HC7.out.cell (i := 1) rfl
  have q0 := HA7.out.lt
  have q1 := HB7.out.lt
  have q2 := HC7.out.lt
  have u0 := HM7.out.cell (i := 0) rfl
  have u1 := HM7.out.cell (i := 1) rfl
  have u2 := HM7.out.cell (i := 2) rfl
  have q3 := HM7.out.lt
  clear HK2 HK3 HTM HTS
  generalize tmR s = l at *
  generalize askE s [] = er at *
  have hll := HP1.out.1
  have HLN := Lib.hid (mvR_len by' l)
  clear c0 c1 c2 d0 d1 g0 g1 q0 q1 q2 u0 u1 u2 q3
  go_wp2_with fail
  go_loopw [15] (fun i wr => ∃ k : Nat, k ≤ l.length ∧ i = .int .i64 k ∧ New w7 wr) (fun i _ => l.length - (intOf i).toNat)
  case atStart => exact ⟨0, Nat.zero_le _, rfl, New.refl _⟩
  case round =>
    obtain ⟨k, hk, rfl, hn⟩ := hrel
    have HNR := Lib.hid hn
    by_cases hlt : k < l.length
    · have ik : (k : Int) < (l.length : Int) := by omega
      obtain ⟨p1, o1, rfl, -, hc1⟩ := (HP1.out.keep hn).2 (by omega)
      obtain ⟨R1, rc1, z0, hR1⟩ := hc1 k hlt
      obtain ⟨p2, o2, rfl, -, hc2⟩ := (HP2.out.keep hn).2 (by rw [HLN.out]; omega)
      obtain ⟨R2, rc2, z1, hR2⟩ := hc2 k (by rw [HLN.out]; exact hlt)
      rw [mvR_row hlt] at z1 hR2
      rw [List.length_map] at z1
      have hin := HIN.out k hlt
      have HR1 := Lib.hid hR1
      have HR2 := Lib.hid hR2
      have HIK := Lib.hid hin
      have HZ0 := Lib.hid z0
      have HZ1 := Lib.hid z1
      have hml := hR1.1
      clear hc1 hc2 hR1 hR2 hin hn z0 z1
      generalize l[k]?.getD [] = m at *
      go_wp2_with fail
      obtain ⟨wo, hwo⟩ : ∃ wo, wo = wr := ⟨_, rfl⟩
      subst hwo
      go_loopw [16] (fun i w' => ∃ j : Nat, j ≤ m.length ∧ i = .int .i64 j ∧ New wo w') (fun i _ => m.length - (intOf i).toNat)
      case atStart => exact ⟨0, Nat.zero_le _, rfl, New.refl _⟩
      case round =>
        obtain ⟨j, hj, rfl, hnk⟩ := hrel
        have HNK := Lib.hid hnk
        have y0 := hnk.cellOf HZ0.out
        have y1 := hnk.cellOf HZ1.out
        by_cases hjt : j < m.length
        · have i2 : (j : Int) < (m.length : Int) := by omega
          have i3 : decide ((m.length : Int) ≤ (j : Int)) = false := by simp; omega
          have i4 : decide (m.length ≤ j) = false := by simp; omega
          have hv := HIK.out j hjt
          obtain ⟨e1, t1, rfl, -, h1⟩ := (HR1.out.keep hnk).2 (by omega)
          obtain ⟨e2, t2, rfl, -, h2⟩ := (HR2.out.keep hnk).2 (by rw [List.length_map]; omega)
          obtain ⟨v0, v1⟩ := h1 j hjt
          obtain ⟨v2, v3⟩ := h2 j (by rw [List.length_map]; exact hjt)
          rw [mv_at hjt] at v2 v3
          clear h1 h2 hnk
          generalize m[j]?.getD (0, 0) = x at *
          obtain ⟨lo, hi⟩ := x
          dsimp only at v0 v1 v2 v3 hv
          have hw1 : IntKind.i64.wrap (lo + by') = lo + by' := IntWalk.i64_in _ (by omega)
          have hw2 : IntKind.i64.wrap (hi + by') = hi + by' := IntWalk.i64_in _ (by omega)
          clear hv
          go_wp2_with fail
          go_quiet (fail)
          dsimp only [Exit.then]
          have HNZ := Lib.hid (HNK.out.trans ((New.refl _).drewN nq))
          clear y0 y1 v0 v1 v2 v3
          go_wp2_with fail
          go_roundw
          case rel => exact ⟨j + 1, by omega, by go_num, HNZ.out⟩
          case measure => simp [intOf]; omega
        · obtain rfl : j = m.length := by omega
          clear hnk
          go_wp2_with fail
          go_roundw
          case rel => exact ⟨k + 1, by omega, by go_num, HNR.out.trans HNK.out⟩
          case measure => simp [intOf]; omega
    · obtain rfl : k = l.length := by omega
      have HN8 := Lib.hid (HN7.out.trans hn)
      have HW8 := Lib.hid (HW7.out.trans hn)
      have HA8 := Lib.hid (HA7.out.keep hn)
      have HB8 := Lib.hid (HB7.out.keep hn)
      have HC8 := Lib.hid (HC7.out.keep hn)
      have HM8 := Lib.hid (HM7.out.keep hn)
      clear hn HA7 HB7 HC7 HM7
      generalize rlLo s ⟨al, an⟩ ⟨bl, bn⟩ = x0 at *
      generalize rlHi s ⟨al, an⟩ ⟨bl, bn⟩ = x1 at *
      generalize askE s [⟨al, an⟩, ⟨bl, bn⟩] = e2 at *
      have c0 := HA8.out.cell (i := 0) rfl
      have c1 := HA8.out.cell (i := 1) rfl
      have c2 := HA8.out.cell (i := 2) rfl
      have d0 := HB8.out.cell (i := 0) rfl
      have d1 := HB8.out.cell (i := 1) rfl
      have g0 := HC8.out.cell (i := 0) rfl
      have g1 := HC8.out.cell (i := 1) rfl
      have q0 := HA8.out.lt
      have q1 := HB8.out.lt
      have q2 := HC8.out.lt
      have u0 := HM8.out.cell (i := 0) rfl
      have u1 := HM8.out.cell (i := 1) rfl
      have u2 := HM8.out.cell (i := 2) rfl
      have q3 := HM8.out.lt
      go_wp2_with fail
      refine (HRL.out _ HN8.out).mono ?_
      rintro e w9 ⟨rfl, z9⟩
      have na := (New.refl w9).alloc (.cells #[.int .i64 x0, .int .i64 x1] 55)
      have zz := z9.trans na
      clear na
      have HS9 := Lib.hid (RowIs.new w9 55 [.int .i64 x0, .int .i64 x1])
      have HW9 := Lib.hid (HW8.out.trans zz)
      have HN9 := Lib.hid (HN8.out.trans zz)
      have HA9 := Lib.hid (HA8.out.keep zz)
      have HB9 := Lib.hid (HB8.out.keep zz)
      have HC9 := Lib.hid (HC8.out.keep zz)
      have HM9 := Lib.hid (HM8.out.keep zz)
      clear zz z9 c0 c1 c2 d0 d1 g0 g1 q0 q1 q2 u0 u1 u2 q3 HA8 HB8 HC8 HM8
      have c0 := HA9.out.cell (i := 0) rfl
      have c1 := HA9.out.cell (i := 1) rfl
      have c2 := HA9.out.cell (i := 2) rfl
      have d0 := HB9.out.cell (i := 0) rfl
      have d1 := HB9.out.cell (i := 1) rfl
      have g0 := HC9.out.cell (i := 0) rfl
      have g1 := HC9.out.cell (i := 1) rfl
      have q0 := HA9.out.lt
      have q1 := HB9.out.lt
      have q2 := HC9.out.lt
      have u0 := HM9.out.cell (i := 0) rfl
      have u1 := HM9.out.cell (i := 1) rfl
      have u2 := HM9.out.cell (i := 2) rfl
      have q3 := HM9.out.lt
      go_wp2_with fail
      refine (HRM.out _ HW9.out HN9.out).mono ?_
      rintro e w10 ⟨rfl, z10⟩
      have na := (New.refl w10).alloc (.cells #[.int .i64 x0, .int .i64 x1] 55)
      have zz := z10.trans na
      clear na
      have HS10 := Lib.hid (RowIs.new w10 55 [.int .i64 x0, .int .i64 x1])
      have HSa := Lib.hid (HS9.out.keep zz)
      have HW10 := Lib.hid (HW9.out.trans zz)
      have HN10 := Lib.hid (HN9.out.trans zz)
      have HA10 := Lib.hid (HA9.out.keep zz)
      have HB10 := Lib.hid (HB9.out.keep zz)
      have HC10 := Lib.hid (HC9.out.keep zz)
      have HM10 := Lib.hid (HM9.out.keep zz)
      clear zz z10 c0 c1 c2 d0 d1 g0 g1 q0 q1 q2 u0 u1 u2 q3 HA9 HB9 HC9 HM9
      have c0 := HA10.out.cell (i := 0) rfl
      have c1 := HA10.out.cell (i := 1) rfl
      have c2 := HA10.out.cell (i := 2) rfl
      have d0 := HB10.out.cell (i := 0) rfl
      have d1 := HB10.out.cell (i := 1) rfl
      have g0 := HC10.out.cell (i := 0) rfl
      have g1 := HC10.out.cell (i := 1) rfl
      have q0 := HA10.out.lt
      have q1 := HB10.out.lt
      have q2 := HC10.out.lt
      have u0 := HM10.out.cell (i := 0) rfl
      have u1 := HM10.out.cell (i := 1) rfl
      have u2 := HM10.out.cell (i := 2) rfl
      have q3 := HM10.out.lt
      have s0 := HSa.out.cell (i := 0) rfl
      have s1 := HSa.out.cell (i := 1) rfl
      have s2 := HS10.out.cell (i := 0) rfl
      have s3 := HS10.out.cell (i := 1) rfl
      have sl := HSa.out.lt
      go_wp2_with fail
      go_ret
      exact ⟨rfl, HN10.out⟩
end Go.Proofs.YtodmbcoobjcooaaDoor
