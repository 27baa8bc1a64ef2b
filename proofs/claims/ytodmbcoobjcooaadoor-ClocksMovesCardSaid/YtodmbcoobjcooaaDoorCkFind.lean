/-
  named and FindLoop of the program. Condition: the system lies in memory.
-/
import Derived.Test.YtodmbcoobjcooaaDoorCkVLoop
import Derived.Test.YtodmbcoobjcooaaDoorCkBds
import Derived.Test.YtodmbcoobjcooaaDoorCkSpans
namespace Go.Proofs.YtodmbcoobjcooaaDoor
open Go Go.RowKit Go.Shelf
attribute [local go_sem] Oper.semAt_some
/-- The bounds that edges are. -/
def namedL (s : Sy) (k : List Nat) : List Bd := k.map fun i => (bnds s)[i]?.getD default
theorem namedL_len (s : Sy) (k : List Nat) : (namedL s k).length = k.length := by simp [namedL]
theorem namedL_take {s : Sy} {k : List Nat} {j : Nat} (h : j < k.length) : namedL s (k.take (j + 1)) = namedL s (k.take j) ++ [(bnds s)[k[j]?.getD 0]?.getD default] := by
  unfold namedL
  rw [take_at h, List.map_append]
  rfl
/-- Bounds of one's own lie in memory. -/
theorem owns_bns {w : World} {b : Nat} {e : TypeId} {A : Option Addr} {n c : Nat} {l : List Bd} (h : w.ownsRow b e 7 (.slice A n c) n (l.flatMap bdCs)) : n = l.length ∧ BnsA w A l := by
  have hl := h.1
  rw [fm_len bdCs 7 (fun _ => rfl)] at hl
  have hn : n = l.length := by omega
  subst hn
  refine ⟨rfl, ?_⟩
  rcases h.2 with ⟨h1, h2⟩ | ⟨g, cap, cur, hv, hb, hh, h1, h2, h3, h4⟩
  · exact ⟨by omega, fun h0 => absurd h2 (by omega)⟩
  · simp only [Value.slice.injEq] at hv
    obtain ⟨rfl, -, rfl⟩ := hv
    unfold maxLen at h2
    refine ⟨by omega, fun _ => ⟨g, 0, rfl, (Array.getElem?_eq_some_iff.1 hh).1, fun i hi => ?_⟩⟩
    rw [List.getElem?_eq_getElem hi]
    have key : ∀ r, r < 7 → w.cell? ⟨g, 0 + i * 7 + r, none⟩ = (bdCs l[i])[r]? := fun r hr => by
      rw [Nat.zero_add, h.cellAt _ (by omega)]
      exact fm_get bdCs 7 (fun _ => rfl) l i r hi hr
    exact ⟨key 0 (by decide), key 1 (by decide), key 2 (by decide), key 3 (by decide), key 4 (by decide), key 5 (by decide), key 6 (by decide)⟩
theorem natV_at {w : World} {b : Nat} {e : TypeId} {A : Option Addr} {n c : Nat} {k : List Nat} (h : w.ownsRow b e 1 (.slice A n c) n (natV k)) : n = k.length ∧ IntsA w A (k.map Int.ofNat) := by
  rw [natV_ints] at h
  have := owns_ints h
  rw [List.length_map] at this
  exact this
set_option maxRecDepth 100000 in
set_option maxHeartbeats 8000000 in
theorem ck_named (s : Sy) (hs : Ok s) (k : List Nat) (A D K : Option Addr) (c d kc : Nat) (w : World) (hM : SysM w A D s) (hbeg : BegA w) (hK : IntsA w K (k.map Int.ofNat)) (hk : ∀ i ∈ k, i < (bnds s).length) (hkl : k.length ≤ 30000) :
    Calls Tryd.prog 107 #[.agg #[.slice A s.tracks.length c, .slice D s.ties.length d, .int .i64 s.window], .slice K k.length kc] w fun e w' => ∃ V base, e = .returned V ∧ New w w' ∧ w'.ownsRow base 91 7 V k.length ((namedL s k).flatMap bdCs) := by
  have n1 := (New.refl w).alloc (.cells #[.slice A s.tracks.length c, .slice D s.ties.length d, .int .i64 s.window] 25)
  have HR := Lib.hid (RowIs.new w 25 [.slice A s.tracks.length c, .slice D s.ties.length d, .int .i64 s.window])
  have n2 := n1.alloc (.cells #[.slice A s.tracks.length c, .slice D s.ties.length d, .int .i64 s.window] 25)
  have r2 := RowIs.new (w.alloc (.cells #[.slice A s.tracks.length c, .slice D s.ties.length d, .int .i64 s.window] 25)) 25 [.slice A s.tracks.length c, .slice D s.ties.length d, .int .i64 s.window]
  have HN2 := Lib.hid n2
  have HCL := Lib.hid (ck_Collect s hs A D c d _ _ (hM.keep n2) ⟨n2.cellOf hbeg.1, n2.cellOf hbeg.2⟩ r2)
  have HK := Lib.hid hK
  have HKI : Hid (∀ j, j < k.length → k[j]?.getD 0 < (bnds s).length ∧ (k.map Int.ofNat)[j]?.getD 0 = ((k[j]?.getD 0 : Nat) : Int)) := Lib.hid fun j hj => by
    rw [List.getElem?_eq_getElem hj, List.getElem?_map, List.getElem?_eq_getElem hj]
    exact ⟨hk _ (List.getElem_mem hj), rfl⟩
  have hbl := bnds_len hs
  have c0 := HR.out.cell (i := 0) rfl
  have c1 := HR.out.cell (i := 1) rfl
  have c2 := HR.out.cell (i := 2) rfl
  simp only [World.size_alloc] at HCL
  clear n1 n2 r2 hM hbeg hK hk hs
  obtain ⟨ib, hib, hz0, hz1, hz2⟩ := info_parts info_bound
  have HI := Lib.hid (And.intro hib (And.intro hz0 (And.intro hz1 hz2)))
  clear hib hz0 hz1 hz2
  go_enter Tryd.func107, Tryd.ntmps107
  go_wp2_with fail
  refine (ck_boundsC _ _ _ _).mono ?_
  rintro e w2 ⟨rfl, rfl⟩
  go_wp2_with fail
  refine HCL.out.mono ?_
  rintro e w3 ⟨V, rfl, ⟨base, hb⟩, m3⟩
  obtain ⟨VA, vc, rfl⟩ := owns_form hb
  have HBN := Lib.hid (owns_bns hb).2
  have HN3 := Lib.hid (HN2.out.trans m3)
  clear hb m3 c0 c1 c2 HR HCL HN2
  go_wp2_with fail
  go_loopw [6, 14] (fun U i wr => ∃ (j : Nat) (UA : Option Addr) (uc : Nat), j ≤ k.length ∧ i = .int .i64 j ∧ U = .slice UA j uc ∧ New w3 wr ∧ wr.ownsRow w3.heap.size 91 7 (.slice UA j uc) j ((namedL s (k.take j)).flatMap bdCs)) (fun _ i _ => k.length - (intOf i).toNat)
  case atStart => exact ⟨0, none, 0, Nat.zero_le _, rfl, rfl, New.refl _, World.ownsRow_nil _ _ _ _⟩
  case round =>
    obtain ⟨j, UA, uc, hj, rfl, rfl, hn, ho⟩ := hrel
    by_cases hlt : j < k.length
    · obtain ⟨kb, ko, rfl, -, y0⟩ := ints_at (HK.out.keep (HN3.out.trans hn)) (j := j) (by rw [List.length_map]; exact hlt)
      obtain ⟨hib, hie⟩ := HKI.out j hlt
      rw [hie] at y0
      have HTK := Lib.hid (namedL_take (s := s) hlt)
      obtain ⟨bb, bo, rfl, -, hbc⟩ := (HBN.out.keep hn).2 (by omega)
      obtain ⟨z0, z1, z2, z3, z4, z5, z6⟩ := hbc _ hib
      have ik : (j : Int) < (k.length : Int) := by omega
      have HO := Lib.hid ho
      have HN := Lib.hid hn
      clear hbc hie ho hn
      generalize hix : k[j]?.getD 0 = ix at *
      have ib2 : (ix : Int) < ((bnds s).length : Int) := by omega
      have ib3 : (bnds s).length ≤ 9223372036854775807 := by omega
      clear hix hib
      generalize hbx : (bnds s)[ix]?.getD default = x at *
      clear hbx
      generalize (bnds s).length = bl at *
      obtain ⟨⟨fl, fn⟩, ⟨tl, tn⟩, mo, kd, id⟩ := x
      dsimp only at z0 z1 z2 z3 z4 z5 z6
      have kb2 := (New.refl wr).alloc (.cells #[.int .i64 fl, .int .i64 fn, .int .i64 tl, .int .i64 tn, .int .i64 mo, .int .i64 kd, .int .i64 id] 91)
      go_wp2_with (at_builtin; go_loud (refine wpList_append_lies _ rfl (.tmp 18) (.tmp 23) 36 rfl w3.heap.size 91 ib (.agg #[.int .i64 0, .int .i64 0, .int .i64 0, .int .i64 0, .int .i64 0, .int .i64 0, .int .i64 0]) 7 56 under_boundsl HI.out.1 HI.out.2.1 HI.out.2.2.1 HI.out.2.2.2 rfl (by decide) (.slice UA j uc) j ((namedL s (k.take j)).flatMap bdCs) rfl (owns_keep HO.out kb2) ⟨wr.heap.size, 0, none⟩ 1 1 [.int .i64 fl, .int .i64 fn, .int .i64 tl, .int .i64 tn, .int .i64 mo, .int .i64 kd, .int .i64 id] rfl rfl ?c1 ?c2 (by decide) ?c3 ?c4 ?c5 _ rfl ?_))
      case c1 => exact World.news_of_block (heap_alloc_new _ _)
      case c2 => simp [Value.oneCell']
      case c3 => unfold maxLen; omega
      case c4 => omega
      case c5 => have := HN.out.size; simp; omega
      intro g cap w7 ho7 hg _ _
      have n7 := Below.trans (HN.out.trans kb2) (grown_below (owns_keep HO.out kb2) hg (by have := HN.out.size; have := kb2.size; omega))
      have HN7 : Hid (New w3 w7) := Lib.hid n7
      have HO7 := Lib.hid ho7
      clear kb2 n7 ho7 hg z0 z1 z2 z3 z4 z5 z6 y0
      go_wp2_with fail
      go_roundw
      case rel => exact ⟨j + 1, _, cap, by omega, by go_num, rfl, HN7.out, by rw [HTK.out, List.flatMap_append]; exact HO7.out⟩
      case measure => simp [intOf]; omega
    · obtain rfl : j = k.length := by omega
      rw [List.take_length] at ho
      go_wp2_with fail
      go_ret
      exact ⟨_, _, rfl, HN3.out.trans hn, ho⟩
end Go.Proofs.YtodmbcoobjcooaaDoor
