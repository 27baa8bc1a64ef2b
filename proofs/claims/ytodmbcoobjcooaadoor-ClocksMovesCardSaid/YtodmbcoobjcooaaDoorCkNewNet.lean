/-
  newNet of the program: the net of a valid system. Condition: the system lies in memory and is valid.
-/
import Derived.Test.YtodmbcoobjcooaaDoorCkNets
import Derived.Maps.AppendAt
import Derived.StillTailTactics
namespace Go.Proofs.YtodmbcoobjcooaaDoor
open Go Go.RowKit Go.Shelf
attribute [local go_sem] Oper.semAt_some
theorem info_int : (Tryd.prog.info? 3).map (fun i => (i.zero, i.size, i.bytes)) = some (some (.int .i64 0), 1, 8) := by kernel_rfl
theorem info_edge : (Tryd.prog.info? 156).map (fun i => (i.zero, i.size, i.bytes)) = some (some (.agg #[.int .i64 0, .int .i64 0, .int .i64 0]), 3, 24) := by kernel_rfl
/-- The firsts of the first k tracks. -/
def firstsK (s : Sy) (k : Nat) : List Int := 0 :: (List.range k).map fun i => ((fstP s i : Nat) : Int)
theorem firstsK_succ (s : Sy) (k : Nat) : firstsK s (k + 1) = firstsK s k ++ [((fstP s k : Nat) : Int)] := by simp [firstsK, List.range_succ]
theorem firstsK_len (s : Sy) (k : Nat) : (firstsK s k).length = k + 1 := by simp [firstsK]
theorem firstsK_all (s : Sy) : firstsK s s.tracks.length = firsts s := rfl
/-- Between two rounds: the edges that have come. -/
def NetI (s : Sy) (n0 p q fc L : Nat) (FA : Option Addr) (w : World) (pre : List (BdOf s)) (W : World) : Prop :=
  (∃ EA ec, RowIs W p 154 [.slice FA (s.tracks.length + 1) fc, .int .i64 (nPl s), .slice EA pre.length ec] ∧ W.ownsRow n0 156 3 (.slice EA pre.length ec) pre.length ((pre.map fun x => egOf s x.1).flatMap egCs)) ∧
  RowIs W q 128 [.pointer (some ⟨p, 0, none⟩)] ∧ W.ownsRow n0 3 1 (.slice FA (s.tracks.length + 1) fc) (s.tracks.length + 1) ((firsts s).map (Value.int .i64)) ∧ Below n0 w W ∧ L ≤ W.heap.size
theorem netI_own (s : Sy) (n0 p q fc L B : Nat) (FA : Option Addr) (w : World) (hn : n0 ≤ B) (hw : n0 = w.heap.size) : OwnFrom B (NetI s n0 p q fc L FA w) := fun pre X Y row hs hg hr => by
  obtain ⟨⟨EA, ec, h1, h2⟩, h3, h4, h5, h6⟩ := hs
  refine ⟨⟨EA, ec, rowIs_own B p _ _ () X Y row h1 hg hr, owns_own h2 hg hr⟩, rowIs_own B q _ _ () X Y row h3 hg hr, owns_own h4 hg hr, ?_, Nat.le_trans h6 hg.size⟩
  exact h5.grown hg (by have := h5.size; omega) (fun k e => by have := (hr k e).1; omega)
theorem NetI.keep {s : Sy} {n0 p q fc L : Nat} {FA : Option Addr} {w : World} {pre : List (BdOf s)} {W W' : World} (h : NetI s n0 p q fc L FA w pre W) (k : New W W') (hw : n0 ≤ w.heap.size) : NetI s n0 p q fc L FA w pre W' := by
  obtain ⟨⟨EA, ec, h1, h2⟩, h3, h4, h5, h6⟩ := h
  exact ⟨⟨EA, ec, h1.keep k, owns_keep h2 k⟩, h3.keep k, owns_keep h4 k, h5.trans (Below.mono k (Nat.le_trans hw h5.size)), Nat.le_trans h6 k.size⟩
theorem under_edges : Tryd.prog.underlying 149 = some (.slice 156) := by kernel_rfl
/-- A net in memory, each of its lists in a block of its own. -/
def NetO (w : World) (base g : Nat) (s : Sy) (E : List Eg) : Prop :=
  ∃ FA fc EA ec, RowIs w g 154 [.slice FA (s.tracks.length + 1) fc, .int .i64 (nPl s), .slice EA E.length ec] ∧ w.ownsRow base 3 1 (.slice FA (s.tracks.length + 1) fc) (s.tracks.length + 1) ((firsts s).map (Value.int .i64)) ∧ w.ownsRow base 156 3 (.slice EA E.length ec) E.length (E.flatMap egCs)
theorem NetO.at {w : World} {base g : Nat} {s : Sy} {E : List Eg} (h : NetO w base g s E) : NetAt w g s E := by
  obtain ⟨FA, fc, EA, ec, h1, h2, h3⟩ := h
  exact ⟨FA, fc, EA, ec, h1, (owns_ints h2).2, (owns_egs h3).2⟩
theorem NetO.keep {w w' : World} {base g : Nat} {s : Sy} {E : List Eg} (h : NetO w base g s E) (k : New w w') : NetO w' base g s E := by
  obtain ⟨FA, fc, EA, ec, h1, h2, h3⟩ := h
  exact ⟨FA, fc, EA, ec, h1.keep k, owns_keep h2 k, owns_keep h3 k⟩
set_option maxRecDepth 100000 in
set_option maxHeartbeats 4000000 in
theorem ck_newNetO (s : Sy) (hs : Ok s) (A D : Option Addr) (c d : Nat) (w : World) (hM : SysM w A D s) (hbeg : BegA w) :
    Calls Tryd.prog 97 #[.agg #[.slice A s.tracks.length c, .slice D s.ties.length d, .int .i64 s.window]] w fun e w' => ∃ g, e = .returned (.pointer (some ⟨g, 0, none⟩)) ∧ NetO w' w.heap.size g s (egs s) ∧ w.heap.size ≤ g ∧ New w w' := by
  have hTK := hM.1
  have hm := hTK.1
  have h64 := (checkE_ok hs).1
  have HM := Lib.hid hM
  have HBG := Lib.hid hbeg
  have HS := Lib.hid hs
  have n1 := (New.refl w).alloc (.cells #[.slice A s.tracks.length c, .slice D s.ties.length d, .int .i64 s.window] 25)
  have n2 := n1.alloc (.cells #[.int .i64 0] 3)
  have n3 := n2.alloc (.cells #[.slice (some ⟨w.heap.size + 1, 0, none⟩) 1 1, .int .i64 1, .slice none 0 0] 154)
  have n4 := n3.alloc (.cells #[.pointer (some ⟨w.heap.size + 1 + 1, 0, none⟩)] 128)
  have r0 := RowIs.new w 25 [.slice A s.tracks.length c, .slice D s.ties.length d, .int .i64 s.window]
  have r1 := RowIs.new (w.alloc (.cells #[.slice A s.tracks.length c, .slice D s.ties.length d, .int .i64 s.window] 25)) 3 [.int .i64 0]
  have r2 := RowIs.new ((w.alloc (.cells #[.slice A s.tracks.length c, .slice D s.ties.length d, .int .i64 s.window] 25)).alloc (.cells #[.int .i64 0] 3)) 154 [.slice (some ⟨w.heap.size + 1, 0, none⟩) 1 1, .int .i64 1, .slice none 0 0]
  have r3 := RowIs.new (((w.alloc (.cells #[.slice A s.tracks.length c, .slice D s.ties.length d, .int .i64 s.window] 25)).alloc (.cells #[.int .i64 0] 3)).alloc (.cells #[.slice (some ⟨w.heap.size + 1, 0, none⟩) 1 1, .int .i64 1, .slice none 0 0] 154)) 128 [.pointer (some ⟨w.heap.size + 1 + 1, 0, none⟩)]
  have m34 : New (((w.alloc (.cells #[.slice A s.tracks.length c, .slice D s.ties.length d, .int .i64 s.window] 25)).alloc (.cells #[.int .i64 0] 3)).alloc (.cells #[.slice (some ⟨w.heap.size + 1, 0, none⟩) 1 1, .int .i64 1, .slice none 0 0] 154)) _ := (New.refl _).alloc (.cells #[.pointer (some ⟨w.heap.size + 1 + 1, 0, none⟩)] 128)
  have m24 : New ((w.alloc (.cells #[.slice A s.tracks.length c, .slice D s.ties.length d, .int .i64 s.window] 25)).alloc (.cells #[.int .i64 0] 3)) _ := ((New.refl _).alloc (.cells #[.slice (some ⟨w.heap.size + 1, 0, none⟩) 1 1, .int .i64 1, .slice none 0 0] 154)).trans m34
  have m14 : New (w.alloc (.cells #[.slice A s.tracks.length c, .slice D s.ties.length d, .int .i64 s.window] 25)) _ := ((New.refl _).alloc (.cells #[.int .i64 0] 3)).trans m24
  replace r0 := r0.keep m14
  replace r1 := r1.keep m24
  replace r2 := r2.keep m34
  simp only [World.size_alloc] at r1 r2 r3
  have c0 := r0.cell (i := 0) rfl
  have HR0 := Lib.hid r0
  have HR1 := Lib.hid r1
  have HR2 := Lib.hid r2
  have HR3 := Lib.hid r3
  have HN := Lib.hid n4
  have hsz : ((((w.alloc (.cells #[.slice A s.tracks.length c, .slice D s.ties.length d, .int .i64 s.window] 25)).alloc (.cells #[.int .i64 0] 3)).alloc (.cells #[.slice (some ⟨w.heap.size + 1, 0, none⟩) 1 1, .int .i64 1, .slice none 0 0] 154)).alloc (.cells #[.pointer (some ⟨w.heap.size + 1 + 1, 0, none⟩)] 128)).heap.size = w.heap.size + 1 + 1 + 1 + 1 := by simp
  clear hM hbeg n1 n2 n3 n4 m34 m24 m14 r0 r1 r2 r3 hs
  refine (callsIn_wide (n := 6)).1 ?_
  refine callsIn_of_wp_marks Tryd.func97 rfl trivial ?_ rfl
  simp only [Tryd.ntmps97, List.size_toArray, List.length_cons, List.length_nil, Nat.reduceAdd, Nat.reduceSub, Array.replicate_succ, Array.replicate_zero, List.push_toArray, List.append_toArray, List.nil_append, List.cons_append]
  gi_wp2_with fail
  generalize hW0 : (((w.alloc (.cells #[.slice A s.tracks.length c, .slice D s.ties.length d, .int .i64 s.window] 25)).alloc (.cells #[.int .i64 0] 3)).alloc (.cells #[.slice (some ⟨w.heap.size + 1, 0, none⟩) 1 1, .int .i64 1, .slice none 0 0] 154)).alloc (.cells #[.pointer (some ⟨w.heap.size + 1 + 1, 0, none⟩)] 128) = W at *
  clear hW0 c0
  have ho1 : W.ownsRow w.heap.size 3 1 (.slice (some ⟨w.heap.size + 1, 0, none⟩) 1 1) 1 ((firstsK s 0).map (Value.int .i64)) := owns_row HR1.out (by omega) rfl (by omega)
  have HSZ := Lib.hid hsz
  obtain ⟨i0, hi0, hz0, hz1, hz2⟩ := info_parts info_int
  have HI : Hid (Tryd.prog.info? 3 = some i0 ∧ i0.zero = some (.int .i64 0) ∧ i0.size = 1 ∧ i0.bytes = 8) := Lib.hid ⟨hi0, hz0, hz1, hz2⟩
  clear hi0 hz0 hz1 hz2 hsz
  gi_loopw [13] (fun i wr => ∃ (k : Nat) (FA : Option Addr) (fc : Nat), k ≤ s.tracks.length ∧ i = .int .i64 k ∧ RowIs wr (w.heap.size + 1 + 1) 154 [.slice FA (k + 1) fc, .int .i64 (fstP s k), .slice none 0 0] ∧ RowIs wr (w.heap.size + 1 + 1 + 1) 128 [.pointer (some ⟨w.heap.size + 1 + 1, 0, none⟩)] ∧
    wr.ownsRow w.heap.size 3 1 (.slice FA (k + 1) fc) (k + 1) ((firstsK s k).map (Value.int .i64)) ∧ RowIs wr w.heap.size 25 [.slice A s.tracks.length c, .slice D s.ties.length d, .int .i64 s.window] ∧ New w wr) (fun i _ => s.tracks.length - (intOf i).toNat)
  case atStart => exact ⟨0, _, _, Nat.zero_le _, rfl, HR2.out, HR3.out, ho1, HR0.out, HN.out⟩
  case round =>
    obtain ⟨k, FA, fc, hk, rfl, p2, p3, po, p0, pn⟩ := hrel
    clear ho1 HR0 HR1 HR2 HR3 HN HSZ
    by_cases hlt : k < s.tracks.length
    · obtain ⟨b, off, rfl, -, hc⟩ := (HM.out.1.keep pn).2 (by omega)
      obtain ⟨JA, jc, TA, tc, z0, z1, z2, z3, -, -⟩ := hc k hlt
      have s3 := (trackB_facts (HS.out.track hlt)).2.2.2.2.2.1
      have hfl := fstP_le HS.out (k + 1) hlt
      have HFS := Lib.hid (fstP_succ s k)
      have HFK := Lib.hid (firstsK_succ s k)
      have HFL := Lib.hid (firstsK_len s k)
      rw [HFS.out] at hfl
      have et : s.tracks[k]?.getD default = tkAt s k := rfl
      rw [et] at z0 z1 z2 z3
      clear hc et
      generalize hF1 : fstP s (k + 1) = f1 at *
      generalize fstP s k = f0 at *
      generalize hK1 : firstsK s (k + 1) = K1 at *
      have HF1 := Lib.hid hF1
      have HK1 := Lib.hid hK1
      clear hF1 hK1
      generalize firstsK s k = K0 at *
      generalize tkAt s k = t at *
      obtain ⟨tsl, tdr, tjs, tts⟩ := t
      dsimp only at z0 z1 z2 z3 s3 hfl HFS
      have na := (New.refl wr).alloc (.cells #[.int .i64 tsl, .int .i64 tdr, .slice JA tjs.length jc, .slice TA tts.length tc] 30)
      have ra := RowIs.new wr 30 [.int .i64 tsl, .int .i64 tdr, .slice JA tjs.length jc, .slice TA tts.length tc]
      have HP2 := Lib.hid (p2.keep na)
      have HP3 := Lib.hid (p3.keep na)
      have HPO := Lib.hid (owns_keep po na)
      have HP0 := Lib.hid (p0.keep na)
      have HPN := Lib.hid (pn.trans na)
      have HRA := Lib.hid ra
      have hlw : w.heap.size + 1 + 1 + 1 < wr.heap.size := p3.lt
      clear p2 p3 po p0 pn na ra
      gi_wp2_with fail
      clear z0 z1 z2 z3
      have HLW : Hid (w.heap.size + 1 + 1 + 1 < (wr.alloc (.cells #[.int .i64 tsl, .int .i64 tdr, .slice JA tjs.length jc, .slice TA tts.length tc] 30)).heap.size) := Lib.hid (by simp; omega)
      have HWR : Hid (wr.heap.size ≠ w.heap.size ∧ wr.heap.size ≠ w.heap.size + 1 + 1 ∧ wr.heap.size ≠ w.heap.size + 1 + 1 + 1) := Lib.hid (by omega)
      clear hlw
      generalize hW2 : wr.alloc (.cells #[.int .i64 tsl, .int .i64 tdr, .slice JA tjs.length jc, .slice TA tts.length tc] 30) = W2 at *
      generalize wr.heap.size = B5 at *
      clear hW2
      have c0 := HP3.out.cell (i := 0) rfl
      have d0 := HP2.out.cell (i := 0) rfl
      have d1 := HP2.out.cell (i := 1) rfl
      have ne1 := (New.refl W2.drew).alloc (.cells #[.int .i64 f0] 3)
      have HO1 : Hid ((W2.drew.alloc (.cells #[.int .i64 f0] 3)).ownsRow w.heap.size 3 1 (.slice FA (k + 1) fc) (k + 1) (K0.map (Value.int .i64))) := Lib.hid (owns_keep HPO.out (((New.refl W2).drew).trans ne1))
      have HPA := Lib.hid (fun (w1 : World) v' n' xs' (hg : (W2.drew.alloc (.cells #[.int .i64 f0] 3)).grownBy w1 (Value.slice FA (k + 1) fc).ownBlock) (ho : w1.ownsRow w.heap.size 3 1 v' n' xs') => push_all (tN := 154) 0 HO1.out hg ho (HP2.out.drew.keep ne1) (by decide))
      have HPB := Lib.hid (fun (w1 : World) (hg : (W2.drew.alloc (.cells #[.int .i64 f0] 3)).grownBy w1 (Value.slice FA (k + 1) fc).ownBlock) => grown_below HO1.out hg (by have := HLW.out; simp; omega))
      have HP3E := Lib.hid (HP3.out.drew.keep ne1)
      have hb2 : w.heap.size + 1 + 1 ≠ w.heap.size + 1 + 1 + 1 := by omega
      have hkm : k + 1 + 1 ≤ maxLen := by unfold maxLen; omega
      have hkb : (k + 1 + 1) * 8 ≤ 140737488355328 := by omega
      have hbs : w.heap.size ≤ (W2.drew.alloc (.cells #[.int .i64 f0] 3)).heap.size := by have := HLW.out; simp; omega
      refine wpIn_wide.2 ?_
      have hS : W2.drew.cell? ⟨w.heap.size + 1 + 1 + 1, 0, none⟩ = some (.pointer (some ⟨w.heap.size + 1 + 1, 0, none⟩)) ∧ W2.drew.cell? ⟨w.heap.size + 1 + 1, 0, none⟩ = some (.slice FA (k + 1) fc) ∧ W2.drew.cell? ⟨w.heap.size + 1 + 1, 1, none⟩ = some (.int .i64 f0) := ⟨c0, d0, d1⟩
      refine region_plain (by kernel_rfl) (wpAny_lastL (S := fun w' => w'.cell? ⟨w.heap.size + 1 + 1 + 1, 0, none⟩ = some (.pointer (some ⟨w.heap.size + 1 + 1, 0, none⟩)) ∧ w'.cell? ⟨w.heap.size + 1 + 1, 0, none⟩ = some (.slice FA (k + 1) fc) ∧ w'.cell? ⟨w.heap.size + 1 + 1, 1, none⟩ = some (.int .i64 f0)) rfl (by kernel_rfl) (by kernel_rfl) (by kernel_rfl) ?_)
      simp only [List.dropLast, List.length_cons, List.length_nil, Nat.reduceAdd]
      change wpAnyH _ _ _ _ _ _ _ _ W2.drew
      refine wpAnyH_take (i := 0) (v := ?_) rfl (by kernel_rfl) (by kernel_rfl) (by kernel_rfl) (fun _ _ _ h => h) (Or.inl ⟨by rfl, fun w' hS' => ?_⟩) hS ?_
      rotate_left
      · obtain ⟨s0, s1, s2⟩ := hS'
        go_simp
        try rfl
      try simp only [Act.put, List.setIfInBounds_toArray]
      refine wpAnyH_take (i := 1) (v := ?_) rfl (by kernel_rfl) (by kernel_rfl) (by kernel_rfl) (fun _ _ _ h => h) (Or.inl ⟨by rfl, fun w' hS' => ?_⟩) hS ?_
      rotate_left
      · obtain ⟨s0, s1, s2⟩ := hS'
        go_simp
        try rfl
      try simp only [Act.put]
      refine wpAnyH_take (i := 2) (v := ?_) rfl (by kernel_rfl) (by kernel_rfl) (by kernel_rfl) (fun _ _ _ h => h) (Or.inl ⟨by rfl, fun w' hS' => ?_⟩) hS ?_
      rotate_left
      · obtain ⟨s0, s1, s2⟩ := hS'
        go_simp
        try rfl
      try simp only [Act.put]
      refine wpAnyH_take (i := 3) (v := ?_) rfl (by kernel_rfl) (by kernel_rfl) (by kernel_rfl) (fun _ _ _ h => h) (Or.inl ⟨by rfl, fun w' hS' => ?_⟩) hS ?_
      rotate_left
      · obtain ⟨s0, s1, s2⟩ := hS'
        go_simp
        try rfl
      try simp only [Act.put]
      refine wpAnyH_take (i := 4) (v := ?_) rfl (by kernel_rfl) (by kernel_rfl) (by kernel_rfl) (fun _ _ _ h => h) (Or.inl ⟨by rfl, fun w' hS' => ?_⟩) hS ?_
      rotate_left
      · obtain ⟨s0, s1, s2⟩ := hS'
        go_simp
        try rfl
      try simp only [Act.put]
      refine wpAnyH_take (i := 5) (v := ?_) rfl (by kernel_rfl) (by kernel_rfl) (by kernel_rfl) (fun _ _ _ h => h) (Or.inl ⟨by rfl, fun w' hS' => ?_⟩) hS ?_
      rotate_left
      · obtain ⟨s0, s1, s2⟩ := hS'
        go_simp
        try rfl
      try simp only [Act.put]
      refine wpAnyH_take (i := 6) (v := ?_) rfl (by kernel_rfl) (by kernel_rfl) (by kernel_rfl) (fun _ _ _ h => h) (Or.inl ⟨by rfl, fun w' hS' => ?_⟩) hS ?_
      rotate_left
      · obtain ⟨s0, s1, s2⟩ := hS'
        go_simp
        try rfl
      try simp only [Act.put]
      refine wpAnyH_take (i := 7) (v := ?_) rfl (by kernel_rfl) (by kernel_rfl) (by kernel_rfl) (fun _ _ _ h => h) (Or.inl ⟨by rfl, fun w' hS' => ?_⟩) hS ?_
      rotate_left
      · obtain ⟨s0, s1, s2⟩ := hS'
        go_simp
        try rfl
      try simp only [Act.put]
      refine wpAnyH_take (i := 8) (v := ?_) rfl (by kernel_rfl) (by kernel_rfl) (by kernel_rfl) (fun _ _ _ h => h) (Or.inl ⟨by rfl, fun w' hS' => ?_⟩) hS ?_
      rotate_left
      · obtain ⟨s0, s1, s2⟩ := hS'
        go_simp
        try rfl
      try simp only [Act.put]
      clear hS
      have HC9 : Hid ((W2.drew.alloc (.cells #[.int .i64 f0] 3)).cell? ⟨w.heap.size + 1 + 1 + 1, 0, none⟩ = some (.pointer (some ⟨w.heap.size + 1 + 1, 0, none⟩)) ∧ (W2.drew.alloc (.cells #[.int .i64 f0] 3)).cell? ⟨w.heap.size + 1 + 1, 0, none⟩ = some (.slice FA (k + 1) fc) ∧ (W2.drew.alloc (.cells #[.int .i64 f0] 3)).cell? ⟨w.heap.size + 1 + 1, 1, none⟩ = some (.int .i64 f0)) := Lib.hid ⟨HP3E.out.cell rfl, (HP2.out.drew.keep ne1).cell rfl, (HP2.out.drew.keep ne1).cell rfl⟩
      refine wpAnyH_ready (rs := [9]) (by kernel_rfl) (by simp) ?_
      refine AllReadyH.cons rfl (fun K hK => ?_) AllReadyH.nil
      go_simp
      refine hK.out _ _ HC9.out (fun hS => ?_)
      clear hK K hS
      refine wpAnyH_ready (rs := [10]) (by kernel_rfl) (by simp) ?_
      refine AllReadyH.cons rfl (fun K hK => ?_) AllReadyH.nil
      refine step_append_lies _ rfl (.tmp 21) (.tmp 26) 26 rfl w.heap.size 3 i0 (.int .i64 0) 1 8 Tryd.underlying26 HI.out.1 HI.out.2.1 HI.out.2.2.1 HI.out.2.2.2 rfl (by decide) (.slice FA (k + 1) fc) (k + 1) (K0.map (Value.int .i64)) rfl HO1.out ⟨W2.drew.heap.size, 0, none⟩ 1 1 [.int .i64 f0] rfl rfl (cell_one_new _ _ _) (by simp [Value.oneCell']) (by decide) hkm hkb hbs _ rfl ?_
      intro g cap w1 ho hg hat hlt1
      have HA1 := Lib.hid (HPA.out w1 _ _ _ hg ho)
      have HB1 := Lib.hid (HPB.out w1 hg)
      have hr3 := HP3E.out.grown hg (owns_ne HO1.out HP3E.out (by decide))
      have e0 := HA1.out.1.cell (i := 0) rfl
      have ef := HA1.out.1.free 0
      refine hK.out _ _ ⟨hr3.cell rfl, HA1.out.1.cell rfl, HA1.out.1.cell rfl⟩ (fun hS => ?_)
      clear hK K ho hat hlt1
      refine wpAnyH_take (i := 11) (v := ?_) rfl (by kernel_rfl) (by kernel_rfl) (by kernel_rfl) (fun _ _ _ h => h) (Or.inl ⟨by rfl, fun w' hS' => ?_⟩) hS ?_
      rotate_left
      · obtain ⟨s0, s1, s2⟩ := hS'
        go_simp
        try rfl
      try simp only [Act.put, List.setIfInBounds_toArray]
      refine wpAnyH_take (i := 12) (v := ?_) rfl (by kernel_rfl) (by kernel_rfl) (by kernel_rfl) (fun _ _ _ h => h) (Or.inl ⟨by rfl, fun w' hS' => ?_⟩) hS ?_
      rotate_left
      · obtain ⟨s0, s1, s2⟩ := hS'
        go_simp
        try rfl
      try simp only [Act.put]
      refine wpAnyH_done (by kernel_rfl) ?_ _
      clear hS c0 d0 d1
      simp only [LastQ]
      go_simp
      have HPN1 : Hid (New w (w1.setCell ⟨w.heap.size + 1 + 1, 0, none⟩ (.slice (some ⟨g, 0, none⟩) (k + 1 + 1) cap))) := Lib.hid (Below.setCell (Below.trans (HPN.out.trans (((New.refl W2).drew).trans ne1)) HB1.out) (p := ⟨w.heap.size + 1 + 1, 0, none⟩) (by show w.heap.size ≤ w.heap.size + 1 + 1; omega) _)
      have HRA1 := Lib.hid (HA1.out.2.2.2.1 _ _ _ (HRA.out.drew.keep ne1) HWR.out.2.1 (by decide))
      have HP01 := Lib.hid (HA1.out.2.2.2.1 _ _ _ (HP0.out.drew.keep ne1) (by omega) (by decide))
      have HP31 := Lib.hid (HA1.out.2.2.2.1 _ _ _ HP3E.out (by omega) (by decide))
      have HP21 := Lib.hid HA1.out.2.1
      have HPO1 := Lib.hid HA1.out.2.2.1
      clear e0 ef hr3 HA1 HB1 hg HPA HPB HP3E HO1 HPO HP0 HP2 HP3 HRA HPN ne1 hkm hkb hbs hb2
      unfold NormQ
      generalize w1.setCell ⟨w.heap.size + 1 + 1, 0, none⟩ (.slice (some ⟨g, 0, none⟩) (k + 1 + 1) cap) = W4 at *
      have c0 := HP31.out.cell (i := 0) rfl
      have d1 := HP21.out.cell (i := 1) rfl
      have x3 := HRA1.out.cell (i := 3) rfl
      have hf1 : IntKind.i64.wrap ((f0 : Int) + (tts.length : Int)) = (f0 : Int) + (tts.length : Int) := IntWalk.i64_in _ (by omega)
      gi_wp2_with fail
      refine wpIn_wide.2 ?_
      go_still_tail 8, (by kernel_rfl)
      change wpList _ _ _ _ _ W4.drew
      have d1' : W4.drew.cell? ⟨w.heap.size + 1 + 1, 1, none⟩ = some (.int .i64 f0) := d1
      have df : W4.drew.frozen? ⟨w.heap.size + 1 + 1, 1, none⟩ = false := HP21.out.free 1
      clear c0 d1 x3 hf1
      go_wp2_with fail
      gi_wp2_with fail
      go_roundw
      case rel =>
        refine ⟨k + 1, _, cap, by omega, by go_num, ?_, (HP31.out.drew.other (by omega) 1 _), owns_setCell (w := W4.drew) ?_ (owns_ne (w := W4.drew) HPO1.out HP21.out.drew (by decide)) 1 _, HP01.out.drew.other (by omega) 1 _, HPN1.out.drew.setCell (by show w.heap.size ≤ w.heap.size + 1 + 1; omega) _⟩
        · have h := HP21.out.drew.put 1 (.int .i64 ((f0 : Int) + (tts.length : Int)))
          rw [show ((f0 : Int) + (tts.length : Int)) = ((f1 : Nat) : Int) by rw [HFS.out]; omega] at h ⊢
          rw [HF1.out]
          exact h
        · rw [HK1.out, HFK.out, List.map_append]
          exact HPO1.out
      case measure => simp [intOf]; omega
    · obtain rfl : k = s.tracks.length := by omega
      have c0 := p0.cell (i := 0) rfl
      have c1 := p0.cell (i := 1) rfl
      have c2 := p0.cell (i := 2) rfl
      have hdd : ∀ k : Nat, (Fence.wide.depth.isSome = true → 1 ≤ k) := fun k h => by cases h
      have hT1 : Fence.wide.fn 69 := trivial
      gi_wp2_with ((try refine ⟨hdd _, ?_⟩); gi_at_call 69; refine (ck_bounds _ _ _ _ _).mono ?_; rintro e w' ⟨rfl, rfl⟩)
      have hlt3 := p3.lt
      have hbl := bnds_len HS.out
      have nb := (New.refl wr).alloc (.cells #[.slice A s.tracks.length c, .slice D s.ties.length d, .int .i64 s.window] 25)
      have rb := RowIs.new wr 25 [.slice A s.tracks.length c, .slice D s.ties.length d, .int .i64 s.window]
      have hszL : (wr.alloc (.cells #[.slice A s.tracks.length c, .slice D s.ties.length d, .int .i64 s.window] 25)).heap.size = wr.heap.size + 1 := by simp
      have HI0 : Hid (NetI s w.heap.size (w.heap.size + 1 + 1) (w.heap.size + 1 + 1 + 1) fc (wr.alloc (.cells #[.slice A s.tracks.length c, .slice D s.ties.length d, .int .i64 s.window] 25)).heap.size FA w [] (wr.alloc (.cells #[.slice A s.tracks.length c, .slice D s.ties.length d, .int .i64 s.window] 25))) :=
        Lib.hid ⟨⟨none, 0, p2.keep nb, World.ownsRow_nil _ _ _ _⟩, p3.keep nb, owns_keep po nb, pn.trans nb, Nat.le_refl _⟩
      have HwL : Hid (wfS (w.heap.size + 1 + 1) 2 (wr.alloc (.cells #[.slice A s.tracks.length c, .slice D s.ties.length d, .int .i64 s.window] 25))) := Lib.hid ⟨by rw [hszL]; omega, fun v q hv hq => by
        rw [(p2.keep nb).cell (i := 2) rfl] at hv
        obtain rfl := Option.some.inj hv
        simp [Value.ownBlock] at hq⟩
      have HSL : Hid (SRow (SafeS (w.heap.size + 1 + 1) 2) (wr.alloc (.cells #[.slice A s.tracks.length c, .slice D s.ties.length d, .int .i64 s.window] 25)) wr.heap.size 25 [.slice A s.tracks.length c, .slice D s.ties.length d, .int .i64 s.window]) := Lib.hid ⟨⟨⟨_, _, _, rb⟩, by omega, fun v hv => by
        rw [(p2.keep nb).cell (i := 2) rfl] at hv
        obtain rfl := Option.some.inj hv
        simp [Value.ownBlock]⟩, rb⟩
      have HBL : Hid (Below w.heap.size w (wr.alloc (.cells #[.slice A s.tracks.length c, .slice D s.ties.length d, .int .i64 s.window] 25))) := Lib.hid (pn.trans nb)
      have HLT : Hid (w.heap.size + 1 + 1 + 1 < (wr.alloc (.cells #[.slice A s.tracks.length c, .slice D s.ties.length d, .int .i64 s.window] 25)).heap.size) := Lib.hid (by rw [hszL]; omega)
      clear p2 p3 po p0 pn nb rb hszL hlt3 c0 c1 c2 hk hlt hT1
      generalize hWL : wr.alloc (.cells #[.slice A s.tracks.length c, .slice D s.ties.length d, .int .i64 s.window] 25) = WL at *
      have HSEQ := Lib.hid (bounds_stops (sftS (w.heap.size + 1 + 1) 2 w.heap.size) s HS.out A D c d wr.heap.size WL w rfl HBL.out HwL.out HM.out HBG.out HSL.out (6 - 1))
      refine range_box 43 6 91 (fun x : BdOf s => bdV x.1) (fun x : BdOf s => [.int .i64 x.1.frm.log, .int .i64 x.1.frm.line, .int .i64 x.1.to.log, .int .i64 x.1.to.line, .int .i64 x.1.most, .int .i64 x.1.kind, .int .i64 x.1.id]) rfl (by omega) (gf := 113) (lb := #[.pointer (some ⟨wr.heap.size, 0, none⟩)]) rfl trivial (enters_of Tryd.func113 (by kernel_rfl) rfl)
        HSEQ.out (fun {A B C} h k => Ev.trans h k) (fun W l o o' hl h1 h2 _ => evS_put hl (by have := HLT.out; omega) (by have := HLT.out; omega) h1 h2) (Below.refl _ _) (fun _ => rfl)
        (NetI s w.heap.size (w.heap.size + 1 + 1) (w.heap.size + 1 + 1 + 1) fc WL.heap.size FA w) (fun _ _ _ => False) (netI_own s _ _ _ _ _ _ _ w (by have := HLT.out; omega) rfl) (fun _ _ _ _ _ hs _ _ => hs) HI0.out ?assign ?body ?done ?stop
      case stop =>
        rintro D c pre W _ _ h _
        exact h.elim
      case assign =>
        intro l pre x W K hi hK
        have HKK := Lib.hid hK
        have hb5 := hi.2.2.2.1
        have hb6 := hi.2.2.2.2
        have HBI := Lib.hid hi
        clear hK hi
        obtain ⟨⟨⟨fl, fi⟩, ⟨tl, ti⟩, mo, kd, id⟩, hx⟩ := x
        unfold bdV
        gi_wp2
        exact HKK.out W.heap.size _ ((KeepsOthers.alloc _ _).from _) (Ev.new (sftS _ _ _) hb5.size ((New.refl W).alloc _)) (HBI.out.keep ((New.refl W).alloc _) (Nat.le_refl _)) hb6 (RowIs.new W _ _)
      case body =>
        rintro l pre ⟨⟨⟨fl, fi⟩, ⟨tl, ti⟩, mo, kd, id⟩, hx⟩ Bx W hni hBx hrx hlen
        obtain ⟨⟨EA, ec, q2, qo⟩, q3, qf, qb, qs⟩ := hni
        dsimp only at hrx ⊢
        have hok := bnds_ok HS.out hx
        have HPL : Hid (∀ w' r, RefOk s r → New W w' → Calls Tryd.prog 110 #[.pointer (some ⟨w.heap.size + 1 + 1, 0, none⟩), .agg #[.int .i64 r.log, .int .i64 r.line]] w' fun e w'' => e = .returned (.int .i64 (plc s r)) ∧ New w' w'') := Lib.hid (fun w' r hr hn => by
          obtain ⟨_, hF⟩ := owns_ints (owns_keep qf hn)
          exact ck_place s HS.out r hr (w.heap.size + 1 + 1) fc FA w' ((q2.keep hn).cell rfl) hF)
        have HO1 := Lib.hid hok.1
        have HO2 := Lib.hid hok.2.1
        have HSD : Hid (∀ w', New W w' → (fun w' => w'.cell? ⟨w.heap.size + 1 + 1 + 1, 0, none⟩ = some (.pointer (some ⟨w.heap.size + 1 + 1, 0, none⟩)) ∧ w'.cell? ⟨w.heap.size + 1 + 1, 2, none⟩ = some (.slice EA pre.length ec) ∧ w'.cell? ⟨Bx, 0, none⟩ = some (.int .i64 fl) ∧ w'.cell? ⟨Bx, 1, none⟩ = some (.int .i64 fi) ∧ w'.cell? ⟨Bx, 2, none⟩ = some (.int .i64 tl) ∧ w'.cell? ⟨Bx, 3, none⟩ = some (.int .i64 ti) ∧ w'.cell? ⟨Bx, 4, none⟩ = some (.int .i64 mo)) w') := Lib.hid (fun w' hn => ⟨(q3.keep hn).cell rfl, (q2.keep hn).cell rfl, (hrx.keep hn).cell rfl, (hrx.keep hn).cell rfl, (hrx.keep hn).cell rfl, (hrx.keep hn).cell rfl, (hrx.keep hn).cell rfl⟩)
        have hl2 : pre.length + 1 ≤ 300000 := by omega
        have hm1 : pre.length + 1 ≤ maxLen := by unfold maxLen; omega
        have hm2 : (pre.length + 1) * 24 ≤ 140737488355328 := by omega
        have HQ2 := Lib.hid q2
        have HQ3 := Lib.hid q3
        have HQO := Lib.hid qo
        have HQF := Lib.hid qf
        have HQB := Lib.hid qb
        have HQX := Lib.hid hrx
        have hS := HSD.out W.drew (New.refl W).drew
        have HLT2 := Lib.hid (Nat.lt_of_lt_of_le HLT.out qs)
        have HLB := Lib.hid (Nat.lt_of_lt_of_le HLT.out hBx)
        clear q2 q3 qo qf qb hrx hok hlen
        simp only [actB, List.setIfInBounds_toArray, List.set_cons_zero, List.set_cons_succ]
        unfold bdV
        gi_wp2
        refine region_round (fun _ W' => KeepsFrom WL.heap.size W W' ∧ Ev w.heap.size (wfS (w.heap.size + 1 + 1) 2) (SafeS (w.heap.size + 1 + 1) 2) W W' ∧ NetI s w.heap.size (w.heap.size + 1 + 1) (w.heap.size + 1 + 1 + 1) fc WL.heap.size FA w (pre ++ [⟨⟨⟨fl, fi⟩, ⟨tl, ti⟩, mo, kd, id⟩, hx⟩]) W') (by kernel_rfl) (noDefer (by kernel_rfl)) ?hany ?hR
        case hR => exact fun _ _ h => h
        case hany =>
          refine wpAny_lastL (S := fun w' => w'.cell? ⟨w.heap.size + 1 + 1 + 1, 0, none⟩ = some (.pointer (some ⟨w.heap.size + 1 + 1, 0, none⟩)) ∧ w'.cell? ⟨w.heap.size + 1 + 1, 2, none⟩ = some (.slice EA pre.length ec) ∧ w'.cell? ⟨Bx, 0, none⟩ = some (.int .i64 fl) ∧ w'.cell? ⟨Bx, 1, none⟩ = some (.int .i64 fi) ∧ w'.cell? ⟨Bx, 2, none⟩ = some (.int .i64 tl) ∧ w'.cell? ⟨Bx, 3, none⟩ = some (.int .i64 ti) ∧ w'.cell? ⟨Bx, 4, none⟩ = some (.int .i64 mo)) rfl (by kernel_rfl) (by kernel_rfl) (by kernel_rfl) ?_
          simp only [List.dropLast, List.length_cons, List.length_nil, Nat.reduceAdd]
          change wpAnyH _ _ _ _ _ _ _ _ W.drew
          refine wpAnyH_take (i := 0) (v := ?_) rfl (by kernel_rfl) (by kernel_rfl) (by kernel_rfl) (fun _ _ _ h => h) (Or.inl ⟨by rfl, fun w' hS' => ?_⟩) hS ?_
          rotate_left
          · obtain ⟨s0, s1, s2, s3, s4, s5, s6⟩ := hS'
            go_simp
            try rfl
          try simp only [Act.put, List.setIfInBounds_toArray]
          refine wpAnyH_take (i := 1) (v := ?_) rfl (by kernel_rfl) (by kernel_rfl) (by kernel_rfl) (fun _ _ _ h => h) (Or.inl ⟨by rfl, fun w' hS' => ?_⟩) hS ?_
          rotate_left
          · obtain ⟨s0, s1, s2, s3, s4, s5, s6⟩ := hS'
            go_simp
            try rfl
          try simp only [Act.put]
          refine wpAnyH_take (i := 2) (v := ?_) rfl (by kernel_rfl) (by kernel_rfl) (by kernel_rfl) (fun _ _ _ h => h) (Or.inl ⟨by rfl, fun w' hS' => ?_⟩) hS ?_
          rotate_left
          · obtain ⟨s0, s1, s2, s3, s4, s5, s6⟩ := hS'
            go_simp
            try rfl
          try simp only [Act.put]
          refine wpAnyH_take (i := 3) (v := ?_) rfl (by kernel_rfl) (by kernel_rfl) (by kernel_rfl) (fun _ _ _ h => h) (Or.inl ⟨by rfl, fun w' hS' => ?_⟩) hS ?_
          rotate_left
          · obtain ⟨s0, s1, s2, s3, s4, s5, s6⟩ := hS'
            go_simp
            try rfl
          try simp only [Act.put]
          refine wpAnyH_take (i := 4) (v := ?_) rfl (by kernel_rfl) (by kernel_rfl) (by kernel_rfl) (fun _ _ _ h => h) (Or.inl ⟨by rfl, fun w' hS' => ?_⟩) hS ?_
          rotate_left
          · obtain ⟨s0, s1, s2, s3, s4, s5, s6⟩ := hS'
            go_simp
            try rfl
          try simp only [Act.put]
          refine wpAnyH_take (i := 5) (v := ?_) rfl (by kernel_rfl) (by kernel_rfl) (by kernel_rfl) (fun _ _ _ h => h) (Or.inl ⟨by rfl, fun w' hS' => ?_⟩) hS ?_
          rotate_left
          · obtain ⟨s0, s1, s2, s3, s4, s5, s6⟩ := hS'
            go_simp
            try rfl
          try simp only [Act.put]
          refine wpAnyH_take (i := 6) (v := ?_) rfl (by kernel_rfl) (by kernel_rfl) (by kernel_rfl) (fun _ _ _ h => h) (Or.inl ⟨by rfl, fun w' hS' => ?_⟩) hS ?_
          rotate_left
          · obtain ⟨s0, s1, s2, s3, s4, s5, s6⟩ := hS'
            go_simp
            try rfl
          try simp only [Act.put]
          refine wpAnyH_take (i := 7) (v := ?_) rfl (by kernel_rfl) (by kernel_rfl) (by kernel_rfl) (fun _ _ _ h => h) (Or.inl ⟨by rfl, fun w' hS' => ?_⟩) hS ?_
          rotate_left
          · obtain ⟨s0, s1, s2, s3, s4, s5, s6⟩ := hS'
            go_simp
            try rfl
          try simp only [Act.put]
          refine wpAnyH_take (i := 9) (v := ?_) rfl (by kernel_rfl) (by kernel_rfl) (by kernel_rfl) (fun _ _ _ h => h) (Or.inl ⟨by rfl, fun w' hS' => ?_⟩) hS ?_
          rotate_left
          · obtain ⟨s0, s1, s2, s3, s4, s5, s6⟩ := hS'
            go_simp
            try rfl
          try simp only [Act.put]
          refine wpAnyH_take (i := 10) (v := ?_) rfl (by kernel_rfl) (by kernel_rfl) (by kernel_rfl) (fun _ _ _ h => h) (Or.inl ⟨by rfl, fun w' hS' => ?_⟩) hS ?_
          rotate_left
          · obtain ⟨s0, s1, s2, s3, s4, s5, s6⟩ := hS'
            go_simp
            try rfl
          try simp only [Act.put]
          refine wpAnyH_take (i := 11) (v := ?_) rfl (by kernel_rfl) (by kernel_rfl) (by kernel_rfl) (fun _ _ _ h => h) (Or.inl ⟨by rfl, fun w' hS' => ?_⟩) hS ?_
          rotate_left
          · obtain ⟨s0, s1, s2, s3, s4, s5, s6⟩ := hS'
            go_simp
            try rfl
          try simp only [Act.put]
          refine wpAnyH_take (i := 13) (v := ?_) rfl (by kernel_rfl) (by kernel_rfl) (by kernel_rfl) (fun _ _ _ h => h) (Or.inl ⟨by rfl, fun w' hS' => ?_⟩) hS ?_
          rotate_left
          · obtain ⟨s0, s1, s2, s3, s4, s5, s6⟩ := hS'
            go_simp
            try rfl
          try simp only [Act.put]
          refine wpAnyH_take (i := 14) (v := ?_) rfl (by kernel_rfl) (by kernel_rfl) (by kernel_rfl) (fun _ _ _ h => h) (Or.inl ⟨by rfl, fun w' hS' => ?_⟩) hS ?_
          rotate_left
          · obtain ⟨s0, s1, s2, s3, s4, s5, s6⟩ := hS'
            go_simp
            try rfl
          try simp only [Act.put]
          clear hS
          refine wpAnyH_ready (rs := [8]) (by kernel_rfl) (by simp) ?_
          refine AllReadyH.cons rfl (fun K hK => ?_) AllReadyH.nil
          go_simp
          refine (HPL.out _ ⟨fl, fi⟩ HO1.out (New.refl W).drew).mono ?_
          rintro e w1 ⟨rfl, n1⟩
          replace n1 := ((New.refl W).drew).trans n1
          refine hK.out _ _ (HSD.out w1 n1) (fun hS => ?_)
          clear hK K hS
          try simp only [Act.put, List.setIfInBounds_toArray, List.set_cons_zero, List.set_cons_succ]
          refine wpAnyH_ready (rs := [12]) (by kernel_rfl) (by simp) ?_
          refine AllReadyH.cons rfl (fun K hK => ?_) AllReadyH.nil
          go_simp
          refine (HPL.out _ ⟨tl, ti⟩ HO2.out n1).mono ?_
          rintro e w2 ⟨rfl, n2⟩
          replace n2 := n1.trans n2
          refine hK.out _ _ (HSD.out w2 n2) (fun hS => ?_)
          clear hK K
          try simp only [Act.put, List.setIfInBounds_toArray, List.set_cons_zero, List.set_cons_succ]
          refine wpAnyH_take (i := 15) (v := ?_) rfl (by kernel_rfl) (by kernel_rfl) (by kernel_rfl) (fun _ _ _ h => h) (Or.inl ⟨by rfl, fun w' hS' => ?_⟩) hS ?_
          rotate_left
          · obtain ⟨s0, s1, s2, s3, s4, s5, s6⟩ := hS'
            go_simp
            try rfl
          try simp only [Act.put, List.setIfInBounds_toArray]
          clear hS
          generalize hpf : plc s ⟨fl, fi⟩ = pf at *
          generalize hpt : plc s ⟨tl, ti⟩ = pt at *
          have HEG : Hid (egOf s ⟨⟨fl, fi⟩, ⟨tl, ti⟩, mo, kd, id⟩ = (pf, pt, mo)) := Lib.hid (by unfold egOf; rw [hpf, hpt])
          have n3 := n2.trans ((New.refl w2).alloc (.cells #[.int .i64 pf, .int .i64 pt, .int .i64 mo] 156))
          refine wpAnyH_ready (rs := [16]) (by kernel_rfl) (by simp) ?_
          refine AllReadyH.cons rfl (fun K hK => ?_) AllReadyH.nil
          go_simp
          refine hK.out _ _ (HSD.out _ n3) (fun hS => ?_)
          clear hK K hS
          try simp only [Act.put, List.setIfInBounds_toArray, List.set_cons_zero, List.set_cons_succ]
          obtain ⟨i1, hi1, hy0, hy1, hy2⟩ := info_parts info_edge
          have hq0 := owns_keep HQO.out n3
          have hbs : w.heap.size ≤ (w2.alloc (.cells #[.int .i64 pf, .int .i64 pt, .int .i64 mo] 156)).heap.size := by have := n3.size; have := HLT2.out; omega
          refine wpAnyH_ready (rs := [17]) (by kernel_rfl) (by simp) ?_
          refine AllReadyH.cons rfl (fun K hK => ?_) AllReadyH.nil
          refine step_append_lies _ rfl (.tmp 48) (.tmp 60) 149 rfl w.heap.size 156 i1 (.agg #[.int .i64 0, .int .i64 0, .int .i64 0]) 3 24 under_edges hi1 hy0 hy1 hy2 rfl (by decide) (.slice EA pre.length ec) pre.length _ rfl hq0 ⟨w2.heap.size, 0, none⟩ 1 1 [.int .i64 pf, .int .i64 pt, .int .i64 mo] rfl rfl (World.news_of_block (cs := #[.int .i64 pf, .int .i64 pt, .int .i64 mo]) (heap_alloc_new w2 _)) (by simp [Value.oneCell']) (by decide) hm1 hm2 hbs _ rfl ?_
          intro g cap w4 ho hg hat hlt4
          obtain ⟨a1, a2, a3, a4, a5⟩ := push_all 2 hq0 hg ho (HQ2.out.keep n3) (by decide)
          have hr3 := (HQ3.out.keep n3).grown hg (owns_ne hq0 (HQ3.out.keep n3) (by decide))
          have hrx := (HQX.out.keep n3).grown hg (owns_ne hq0 (HQX.out.keep n3) (by decide))
          refine hK.out _ _ ⟨hr3.cell rfl, a1.cell rfl, hrx.cell rfl, hrx.cell rfl, hrx.cell rfl, hrx.cell rfl, hrx.cell rfl⟩ (fun hS => ?_)
          clear hK K
          try simp only [Act.put, List.setIfInBounds_toArray]
          refine wpAnyH_take (i := 18) (v := ?_) rfl (by kernel_rfl) (by kernel_rfl) (by kernel_rfl) (fun _ _ _ h => h) (Or.inl ⟨by rfl, fun w' hS' => ?_⟩) hS ?_
          rotate_left
          · obtain ⟨s0, s1, s2, s3, s4, s5, s6⟩ := hS'
            go_simp
            try rfl
          try simp only [Act.put]
          refine wpAnyH_take (i := 19) (v := ?_) rfl (by kernel_rfl) (by kernel_rfl) (by kernel_rfl) (fun _ _ _ h => h) (Or.inl ⟨by rfl, fun w' hS' => ?_⟩) hS ?_
          rotate_left
          · obtain ⟨s0, s1, s2, s3, s4, s5, s6⟩ := hS'
            go_simp
            try rfl
          try simp only [Act.put]
          refine wpAnyH_done (by kernel_rfl) ?_ _
          clear hS
          have e2 := a1.cell (i := 2) rfl
          have ef := a1.free 2
          have HEV := Lib.hid (evS_push (p := w.heap.size + 1 + 1) (o := 2) n3 hq0 hg ho HQ2.out rfl (by decide) (hat.imp (fun h => h) (fun h => by rw [h]; have := n2.size; simp; omega)) (by have := HLT2.out; omega) (by omega))
          have HKO : Hid (KeepsFrom WL.heap.size W (w4.setCell ⟨w.heap.size + 1 + 1, 2, none⟩ (.slice (some ⟨g, 0, none⟩) (pre.length + 1) cap))) := Lib.hid (((KeepsOthers.of_grownBy (grown_of n3 none) (fun j o ej _ => by cases ej)).trans ((KeepsOthers.of_grownBy hg (fun j o ej hoj => ?ko)).trans (KeepsOthers.setCell _ _ _))).from _)
          case ko =>
            rcases hq0.2 with ⟨h1, _⟩ | ⟨g', cap', cur, h1, _, hh, _⟩
            · rw [h1] at ej; cases ej
            · rw [h1] at ej
              obtain rfl : g' = j := by simpa [Value.ownBlock] using ej
              rw [hh] at hoj
              cases hoj
              rfl
          have HNI : Hid (NetI s w.heap.size (w.heap.size + 1 + 1) (w.heap.size + 1 + 1 + 1) fc WL.heap.size FA w (pre ++ [⟨⟨⟨fl, fi⟩, ⟨tl, ti⟩, mo, kd, id⟩, hx⟩]) (w4.setCell ⟨w.heap.size + 1 + 1, 2, none⟩ (.slice (some ⟨g, 0, none⟩) (pre.length + 1) cap))) := Lib.hid (by
            refine ⟨⟨some ⟨g, 0, none⟩, cap, ?_, ?_⟩, a4 _ _ _ (HQ3.out.keep n3) (by omega) (by decide), a5 _ _ _ _ _ _ (owns_keep HQF.out n3) (by decide) (by decide), HQB.out.trans HEV.out.1, Nat.le_trans qs HEV.out.1.size⟩
            · rw [List.length_append, List.length_singleton]; exact a2
            · rw [List.length_append, List.length_singleton, List.map_append, List.flatMap_append]
              have e9 : (List.map (fun x : BdOf s => egOf s x.1) [⟨⟨⟨fl, fi⟩, ⟨tl, ti⟩, mo, kd, id⟩, hx⟩]).flatMap egCs = [.int .i64 pf, .int .i64 pt, .int .i64 mo] := by
                simp only [List.map_cons, List.map_nil, HEG.out]; rfl
              rw [e9]
              exact a3)
          clear a2 a3 a4 a5 hr3 hrx hg ho hat hlt4 hq0
          simp only [LastQ]
          go_simp
          exact ⟨HKO.out, HEV.out, HNI.out⟩
      case done =>
        rintro D ys W hD hys ⟨⟨EA, ec, q2, qo⟩, q3, qf, qb, qs⟩ hK
        have c0 := q3.cell (i := 0) rfl
        have hmap : (ys.map fun x => egOf s x.1) = egs s := by have h := congrArg (List.map (egOf s)) hys; rw [List.map_map] at h; exact h
        have hyl : ys.length = (egs s).length := by rw [← hmap, List.length_map]
        have HQ := Lib.hid (And.intro q2 (And.intro qo (And.intro qf (And.intro qb hmap))))
        have HYL := Lib.hid hyl
        have HDD := Lib.hid hD
        clear q2 q3 qo qf qb qs hmap hys hD hyl
        gi_wp2_with fail
        refine ⟨by simp, .inl ⟨_, _, rfl, run_takeDeferred hK, ?_⟩⟩
        refine ⟨_, results_tmp rfl _ _ _, w.heap.size + 1 + 1, rfl, ?_, by omega, ?_⟩
        · have hlD := (Array.getElem?_eq_some_iff.1 hK).1
          have hq := HQ.out
          obtain ⟨q2, qo, qf, qb, hmap⟩ := hq
          have g2 : RowIs (W.putObj D (.deferred none)) (w.heap.size + 1 + 1) 154 _ := q2.grown (grownBy_putObj' W D _) (by have := HLT.out; have := HDD.out; simp; omega)
          have go : (W.putObj D (.deferred none)).ownsRow _ _ _ _ _ _ := ownsRow_putObj qo _ hK rfl
          have gf : (W.putObj D (.deferred none)).ownsRow _ _ _ _ _ _ := ownsRow_putObj qf _ hK rfl
          rw [hmap] at go
          rw [HYL.out] at g2 go
          exact ⟨FA, fc, EA, ec, g2, gf, go⟩
        · exact HQ.out.2.2.2.1.trans (belowK_b (w := w) (Nat.le_refl _) W D _ _ (by have := HLT.out; have := HDD.out; omega) hK rfl rfl)
theorem ck_newNet (s : Sy) (hs : Ok s) (A D : Option Addr) (c d : Nat) (w : World) (hM : SysM w A D s) (hbeg : BegA w) :
    Calls Tryd.prog 97 #[.agg #[.slice A s.tracks.length c, .slice D s.ties.length d, .int .i64 s.window]] w fun e w' => ∃ g, e = .returned (.pointer (some ⟨g, 0, none⟩)) ∧ NetAt w' g s (egs s) ∧ w.heap.size ≤ g ∧ New w w' := by
  refine (ck_newNetO s hs A D c d w hM hbeg).mono ?_
  rintro e w' ⟨g, he, h1, h2, h3⟩
  exact ⟨g, he, h1.at, h2, h3⟩
end Go.Proofs.YtodmbcoobjcooaaDoor
