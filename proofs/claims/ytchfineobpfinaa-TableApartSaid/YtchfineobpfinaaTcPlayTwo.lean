/- The laws' play on a table and on a document's that may differ. For at most 1000 entries, 10^9 bytes together. -/
import Derived.Test.YtchfineobpfinaaProg
import Derived.Test.YtchfineobpfinaaTbMath
import Derived.Test.YtchfineobpfinaaTbMem
import Derived.Test.YtchfineobpfinaaTbLeast
import Derived.Test.YtchfineobpfinaaTbRef
import Derived.Test.YtchfineobpfinaaTbFix
import Derived.Test.YtchfineobpfinaaTbAll
import Derived.Test.YtchfineobpfinaaTbAt
import Derived.Test.YtchfineobpfinaaTbNil
import Derived.Test.YtchfineobpfinaaTcMem
import Derived.Test.YtchfineobpfinaaTcLow
import Derived.Test.YtchfineobpfinaaTcShrink
import Derived.Test.YtchfineobpfinaaTcAdd
import Derived.Test.YtchfineobpfinaaTcActs
import Derived.Test.YtchfineobpfinaaTcPlay
import Derived.WalkKit
import Derived.Lib.Hide
import Derived.Lib.Strings
import Derived.Outline
import Derived.IntWalk
import Derived.WalkSpells
import Derived.WalkLawsBesides
import Derived.Laws.Rows
namespace Go.Proofs.Ytchfineobpfinaa
open Go.RowKit Tb

set_option maxHeartbeats 4000000 in
set_option maxRecDepth 100000 in
theorem play_two (g b : Nat) (t s : Tab) (A : Option Addr) (c : Nat) (e : ActE) (w : World) (h : Hid (TAt w g b t)) (hf : Hid (Fit t)) (hm : Hid (MAt w g b A c s.2)) (hsl : s.2.length ≤ 1000) (hsM : s.1 ≤ 9223372036854775807) (hsum : sumL s.2 ≤ 900000000) (hx : e.name.size ≤ 1000000) (hy : e.val.size ≤ 1000000) (hb1 : -9223372036854775808 ≤ e.most) (hb2 : e.most ≤ 9223372036854775807) :
    Calls Try.prog 13 #[.pointer (some ⟨g, 0, none⟩), .agg #[.int .i64 (s.1 : Int), .slice A s.2.length c], .agg #[.string e.name, .string e.val, .int .i64 e.most]] w fun r w' => ∃ b' A' c', r = .returned (.agg #[.int .i64 ((actT s e).1 : Int), .slice A' (actT s e).2.length c']) ∧ TAt w' g b' (actT t e) ∧ MAt w' g b' A' c' (actT s e).2 ∧ Kept2 g b w w' ∧ (b' = b ∨ b' = g ∨ w.heap.size ≤ b') := by
  obtain ⟨x, y, most⟩ := e
  dsimp only at hx hy hb1 hb2 ⊢
  have hmx := hsM
  have hln := hsl
  obtain ⟨hgl, hbl⟩ := h.out.lt
  obtain ⟨n, hn⟩ : ∃ n, s.2.length = n := ⟨_, rfl⟩
  obtain ⟨M, hM⟩ : ∃ M : Int, (s.1 : Int) = M := ⟨_, rfl⟩
  rw [hn, hM]
  obtain ⟨W, hW⟩ : ∃ W, ((w.alloc (.cells #[.int .i64 M, .slice A n c] 29)).alloc (.cells #[.string x, .string y, .int .i64 most] 34)).alloc (.cells #[.int .i64 0, .slice none 0 0] 29) = W := ⟨_, rfl⟩
  obtain ⟨E, hE⟩ : ∃ E, w.heap.size = E := ⟨_, rfl⟩
  have hBW : Below E w W := by rw [← hW, ← hE]; exact (((Below.refl _ w).alloc (Nat.le_refl _) _).alloc (by simp) _).alloc (by rw [World.size_alloc, World.size_alloc]; omega) _
  have k0 : W.heap[E]? = some (.cells #[.int .i64 M, .slice A n c] 29 (0, 0)) := by rw [← hW, ← hE]; exact (heap_alloc_old _ _ (by rw [World.size_alloc, World.size_alloc]; omega)).trans (heap_alloc2_old w _ _)
  have k1 : W.heap[E + 1]? = some (.cells #[.string x, .string y, .int .i64 most] 34 (0, 0)) := by rw [← hW, ← hE]; exact (heap_alloc_old _ _ (by rw [World.size_alloc, World.size_alloc]; omega)).trans (heap_alloc2_new w _ _)
  have k2 : W.heap[E + 2]? = some (.cells #[.int .i64 0, .slice none 0 0] 29 (0, 0)) := by
    have := heap_alloc_new ((w.alloc (.cells #[.int .i64 M, .slice A n c] 29)).alloc (.cells #[.string x, .string y, .int .i64 most] 34)) (.cells #[.int .i64 0, .slice none 0 0] 29)
    rw [hW] at this
    simp only [World.size_alloc] at this
    rw [hE] at this
    exact this
  have hTW := Lib.hid (h.out.below (by rw [hE]; exact hBW))
  have hMW := Lib.hid (hm.out.below (by rw [hE]; exact hBW))
  have HK0 := Lib.hid k0
  have HK1 := Lib.hid k1
  have HK2 := Lib.hid k2
  have HBW := Lib.hid hBW
  obtain ⟨a1, a2, a3, a4⟩ := two_cells k0
  obtain ⟨d1, d2, d3, d4, d5, d6⟩ := three_cells k1
  obtain ⟨f1, f2, f3, f4⟩ := two_cells k2
  have z1 := isEmpty_is x
  have z2 := isEmpty_is y
  rw [hE] at hgl hbl
  clear k0 k1 k2 hBW
  -- what lies behind the table's own call
  have FIN : Hid (∀ (t' s' : Tab) (w3 w4 : World) (b' : Nat) (v : Value), TAt w3 g b' t' → Kept2 g b W w3 → (b' = b ∨ b' = g ∨ W.heap.size ≤ b') → w4.ownsRow w3.heap.size 38 2 v s'.2.length (entCs s'.2) → Below w3.heap.size w3 w4 → (s'.2 = [] → v = .slice none 0 0) →
      ∃ A' c', v = .slice A' s'.2.length c' ∧ Hid (∀ z0, TAt ((w4.setCell ⟨E + 2, 0, none⟩ z0).setCell ⟨E + 2, 1, none⟩ v) g b' t' ∧ MAt ((w4.setCell ⟨E + 2, 0, none⟩ z0).setCell ⟨E + 2, 1, none⟩ v) g b' A' c' s'.2 ∧ Kept2 g b w ((w4.setCell ⟨E + 2, 0, none⟩ z0).setCell ⟨E + 2, 1, none⟩ v) ∧ (b' = b ∨ b' = g ∨ w.heap.size ≤ b'))) := Lib.hid fun t' s' w3 w4 b' v ht hk hb hO hB hnil => by
    obtain ⟨g3, b3⟩ := ht.lt
    obtain ⟨A', c', hv, hma, hfar⟩ := mat_own hO hnil g3 b3
    have hWs := hk.size
    have hE2 := world_lt HK2.out
    refine ⟨A', c', hv, Lib.hid fun z0 => ?_⟩
    have hne : ∀ k, k ≠ E + 2 → ((w4.setCell ⟨E + 2, 0, none⟩ z0).setCell ⟨E + 2, 1, none⟩ v).heap[k]? = w4.heap[k]? := fun k hk' => (Below.heap_setCell _ ⟨E + 2, 1, none⟩ v k hk').trans (Below.heap_setCell _ ⟨E + 2, 0, none⟩ z0 k hk')
    have hb2 : b' ≠ E + 2 := by rcases hb with rfl | rfl | hb <;> omega
    refine ⟨(ht.below hB).kept (by simp) (hne g (by omega)) (fun _ => hne b' hb2), hma.same (by simp) (fun r o e => hne r (by have := hfar r o e; omega)), ?_, by rcases hb with h | h | h; exact .inl h; exact .inr (.inl h); exact .inr (.inr (by rw [hE]; have := HBW.out.size; omega))⟩
    have hKW : Kept2 g b w W := Kept2.of_below (by rw [hE]; exact HBW.out)
    exact ((((hKW.trans hk (.inl rfl)).trans (Kept2.of_below (g := g) (b := b) hB) (.inl rfl))).setCell (p := ⟨E + 2, 0, none⟩) (.inr (.inr (by show _ ≤ E + 2; omega))) z0).setCell (p := ⟨E + 2, 1, none⟩) (.inr (.inr (by show _ ≤ E + 2; omega))) v
  have BOX : Hid (∀ (w3 : World), Kept2 g b W w3 → w3.heap[E]? = some (.cells #[.int .i64 M, .slice A n c] 29 (0, 0)) ∧ w3.heap[E + 1]? = some (.cells #[.string x, .string y, .int .i64 most] 34 (0, 0)) ∧ w3.heap[E + 2]? = some (.cells #[.int .i64 0, .slice none 0 0] 29 (0, 0))) := Lib.hid fun w3 hk =>
    ⟨(hk.block E (world_lt HK0.out) (by omega) (by omega)).trans HK0.out, (hk.block (E + 1) (world_lt HK1.out) (by omega) (by omega)).trans HK1.out, (hk.block (E + 2) (world_lt HK2.out) (by omega) (by omega)).trans HK2.out⟩
  have hnn : s.2.length ≤ 30000 := by omega
  by_cases hboth : x.size = 0 ∧ y.size = 0
  · have hst : actT t ⟨x, y, most⟩ = resT t most := if_pos hboth
    have hst2 : actT s ⟨x, y, most⟩ = resT s most := if_pos hboth
    rw [hst, hst2]
    rw [decide_eq_true hboth.1] at z1
    rw [decide_eq_true hboth.2] at z2
    clear hst hst2
    obtain ⟨M2, hM2⟩ : ∃ M2 : Int, (most.toNat : Int) = M2 := ⟨_, rfl⟩
    have hg2 : (((resT s most).1 : Nat) : Int) = M2 := hM2
    rw [hg2]
    have HRZ : Hid (∀ w3, MAt w3 g b A c s.2 → Calls Try.prog 26 #[.agg #[.int .i64 M, .slice A n c], .int .i64 most] w3 fun e w' => ∃ v, e = .returned (.agg #[.int .i64 M2, v]) ∧ w'.ownsRow w3.heap.size 38 2 v (resT s most).2.length (entCs (resT s most).2) ∧ Below w3.heap.size w3 w' ∧ Hid ((resT s most).2 = [] → v = .slice none 0 0)) := Lib.hid fun w3 hma => by
      rw [← hM2]
      exact refResizeN_is M most A n c s.2 (resT s most).2 w3 (Lib.hid hn) (Lib.hid hma.rd) (Lib.hid (by omega)) hb1 hb2 (Lib.hid rfl)
    clear hM2 hg2
    go_enter Try.func13, Try.ntmps13
    go_wp2_with fail
    refine (resize_is g b t most W hTW hf hb1 hb2).mono ?_
    rintro e w3 ⟨rfl, b', hT3, hK3, hbb⟩
    obtain ⟨y0, y1, y2⟩ := BOX.out w3 hK3
    obtain ⟨u1, u2, _, _⟩ := two_cells y0
    obtain ⟨v1, v2, v3, _, _, _⟩ := three_cells y1
    have hma3 := hMW.out.kept hK3 (.inl rfl)
    have HMA := Lib.hid hma3
    clear hma3
    go_wp2_with fail
    refine (HRZ.out _ HMA.out).mono ?_
    rintro e w4 ⟨v, rfl, hO, hB4, hNL⟩
    obtain ⟨A', c', rfl, HF⟩ := FIN.out (resT t most) (resT s most) w3 w4 b' v hT3 hK3 (by rcases hbb with h1 | h1; exact .inl h1; exact .inr (.inl h1)) hO hB4 hNL.out
    have q2 := (hB4.block (E + 2) (world_lt y2)).trans y2
    have Z0 := zero_set (y := .int .i64 M2) q2
    have Z1 := Lib.hid (two_set (x := .int .i64 M2) (y := .slice A' (resT s most).2.length c') q2)
    obtain ⟨p1, p2, p3, p4⟩ := two_cells q2
    obtain ⟨o1, o2, o3, o4⟩ := two_cells Z0
    obtain ⟨j1, j2, j3, j4⟩ := HF.out (.int .i64 M2)
    have J1 := Lib.hid j1
    have J2 := Lib.hid j2
    have J3 := Lib.hid j3
    have J4 := Lib.hid j4
    clear y0 y1 y2 q2 Z0 hO hB4 hT3 hK3 hbb HF j1 j2 j3 j4 hNL
    generalize hNN : (resT s most).2.length = nn at *
    have HNN := Lib.hid hNN
    clear hNN
    go_wp2_with fail
    exact bodyPost_ret (v := .agg #[.int .i64 M2, .slice A' nn c']) (results_cell_row rfl _ _ (E + 2) 29 #[.int .i64 M2, .slice A' nn c'] (0, 0) _ rfl Z1.out Try.underlying29 rfl tabInfo) rfl ⟨b', A', c', by rw [HNN.out], J1.out, J2.out, J3.out, J4.out⟩
  · have hst : actT t ⟨x, y, most⟩ = addT t (x, y) := if_neg hboth
    have hst2 : actT s ⟨x, y, most⟩ = addT s (x, y) := if_neg hboth
    rw [hst, hst2]
    clear hst hst2
    have hg2 : (((addT s (x, y)).1 : Nat) : Int) = M := hM
    rw [hg2]
    have HRZ : Hid (∀ w3, MAt w3 g b A c s.2 → Calls Try.prog 27 #[.agg #[.int .i64 M, .slice A n c], .string x, .string y] w3 fun e w' => ∃ v, e = .returned (.agg #[.int .i64 M, v]) ∧ w'.ownsRow w3.heap.size 38 2 v (addT s (x, y)).2.length (entCs (addT s (x, y)).2) ∧ Below w3.heap.size w3 w' ∧ Hid ((addT s (x, y)).2 = [] → v = .slice none 0 0)) := Lib.hid fun w3 hma => by
      rw [← hn]
      refine refAddN_any M A c s.2 x y (addT s (x, y)).2 w3 hma.1 hnn (by show sz (x, y) + sumL s.2 ≤ _; have : sz (x, y) = x.size + y.size + 32 := rfl; omega) (by omega) (by omega) (Lib.hid ?_)
      show leastL ((x, y) :: s.2) M.toNat = leastL ((x, y) :: s.2) s.1
      rw [← hM, Int.toNat_natCast]
    clear hg2
    by_cases h0 : x.size = 0
    · rw [decide_eq_true h0] at z1
      rw [decide_eq_false (fun h2 => hboth ⟨h0, h2⟩)] at z2
      go_enter Try.func13, Try.ntmps13
      go_wp2_with fail
      refine (add_is g b t x y W hTW hf hx hy).mono ?_
      rintro e w3 ⟨rfl, b', hT3, hK3, hbb⟩
      obtain ⟨y0, y1, y2⟩ := BOX.out w3 hK3
      obtain ⟨u1, u2, _, _⟩ := two_cells y0
      obtain ⟨v1, v2, v3, _, _, _⟩ := three_cells y1
      have hma3 := hMW.out.kept hK3 (.inl rfl)
      have HMA := Lib.hid hma3
      clear hma3
      go_wp2_with fail
      refine (HRZ.out _ HMA.out).mono ?_
      rintro e w4 ⟨v, rfl, hO, hB4, hNL⟩
      obtain ⟨A', c', rfl, HF⟩ := FIN.out (addT t (x, y)) (addT s (x, y)) w3 w4 b' v hT3 hK3 (by rcases hbb with h1 | h1 | h1; exact .inl h1; exact .inr (.inl h1); exact .inr (.inr h1)) hO hB4 hNL.out
      have q2 := (hB4.block (E + 2) (world_lt y2)).trans y2
      have Z0 := zero_set (y := .int .i64 M) q2
      have Z1 := Lib.hid (two_set (x := .int .i64 M) (y := .slice A' (addT s (x, y)).2.length c') q2)
      obtain ⟨p1, p2, p3, p4⟩ := two_cells q2
      obtain ⟨o1, o2, o3, o4⟩ := two_cells Z0
      obtain ⟨j1, j2, j3, j4⟩ := HF.out (.int .i64 M)
      have J1 := Lib.hid j1
      have J2 := Lib.hid j2
      have J3 := Lib.hid j3
      have J4 := Lib.hid j4
      clear y0 y1 y2 q2 Z0 hO hB4 hT3 hK3 hbb HF j1 j2 j3 j4 hNL
      generalize hNN : (addT s (x, y)).2.length = nn at *
      have HNN := Lib.hid hNN
      clear hNN
      go_wp2_with fail
      exact bodyPost_ret (v := .agg #[.int .i64 M, .slice A' nn c']) (results_cell_row rfl _ _ (E + 2) 29 #[.int .i64 M, .slice A' nn c'] (0, 0) _ rfl Z1.out Try.underlying29 rfl tabInfo) rfl ⟨b', A', c', by rw [HNN.out], J1.out, J2.out, J3.out, J4.out⟩
    · rw [decide_eq_false h0] at z1
      clear z2
      go_enter Try.func13, Try.ntmps13
      go_wp2_with fail
      refine (add_is g b t x y W hTW hf hx hy).mono ?_
      rintro e w3 ⟨rfl, b', hT3, hK3, hbb⟩
      obtain ⟨y0, y1, y2⟩ := BOX.out w3 hK3
      obtain ⟨u1, u2, _, _⟩ := two_cells y0
      obtain ⟨v1, v2, v3, _, _, _⟩ := three_cells y1
      have hma3 := hMW.out.kept hK3 (.inl rfl)
      have HMA := Lib.hid hma3
      clear hma3
      go_wp2_with fail
      refine (HRZ.out _ HMA.out).mono ?_
      rintro e w4 ⟨v, rfl, hO, hB4, hNL⟩
      obtain ⟨A', c', rfl, HF⟩ := FIN.out (addT t (x, y)) (addT s (x, y)) w3 w4 b' v hT3 hK3 (by rcases hbb with h1 | h1 | h1; exact .inl h1; exact .inr (.inl h1); exact .inr (.inr h1)) hO hB4 hNL.out
      have q2 := (hB4.block (E + 2) (world_lt y2)).trans y2
      have Z0 := zero_set (y := .int .i64 M) q2
      have Z1 := Lib.hid (two_set (x := .int .i64 M) (y := .slice A' (addT s (x, y)).2.length c') q2)
      obtain ⟨p1, p2, p3, p4⟩ := two_cells q2
      obtain ⟨o1, o2, o3, o4⟩ := two_cells Z0
      obtain ⟨j1, j2, j3, j4⟩ := HF.out (.int .i64 M)
      have J1 := Lib.hid j1
      have J2 := Lib.hid j2
      have J3 := Lib.hid j3
      have J4 := Lib.hid j4
      clear y0 y1 y2 q2 Z0 hO hB4 hT3 hK3 hbb HF j1 j2 j3 j4 hNL
      generalize hNN : (addT s (x, y)).2.length = nn at *
      have HNN := Lib.hid hNN
      clear hNN
      go_wp2_with fail
      exact bodyPost_ret (v := .agg #[.int .i64 M, .slice A' nn c']) (results_cell_row rfl _ _ (E + 2) 29 #[.int .i64 M, .slice A' nn c'] (0, 0) _ rfl Z1.out Try.underlying29 rfl tabInfo) rfl ⟨b', A', c', by rw [HNN.out], J1.out, J2.out, J3.out, J4.out⟩
end Go.Proofs.Ytchfineobpfinaa
