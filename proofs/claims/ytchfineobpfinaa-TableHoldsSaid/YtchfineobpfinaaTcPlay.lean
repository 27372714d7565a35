/- The laws' play: an act on a table and on the document's. For at most 1000 entries, 10^9 bytes together. -/
import Derived.Test.YtchfineobpfinaaProg
import Derived.Test.YtchfineobpfinaaTbMath
import Derived.Test.YtchfineobpfinaaTbMem
import Derived.Test.YtchfineobpfinaaTbLeast
import Derived.Test.YtchfineobpfinaaTbRef
import Derived.Test.YtchfineobpfinaaTbFix
import Derived.Test.YtchfineobpfinaaTbAll
import Derived.Test.YtchfineobpfinaaTbAt
import Derived.Test.YtchfineobpfinaaTbNil
import Derived.Test.YtchfineobpfinaaTcMem
import Derived.Test.YtchfineobpfinaaTcLow
import Derived.Test.YtchfineobpfinaaTcShrink
import Derived.Test.YtchfineobpfinaaTcAdd
import Derived.Test.YtchfineobpfinaaTcActs
import Derived.WalkKit
import Derived.Lib.Hide
import Derived.Lib.Strings
import Derived.Outline
import Derived.IntWalk
import Derived.WalkSpells
import Derived.WalkLawsBesides
import Derived.Laws.Rows
namespace Go.Proofs.Ytchfineobpfinaa
open Go.RowKit Tb

namespace Tb
/-- The document's table, apart from a table's blocks. -/
def MAt (w : World) (g b : Nat) (A : Option Addr) (c : Nat) (L : List Ent) : Prop := TabE w w.heap.size A L.length c L ∧ ∀ r o, A = some ⟨r, o, none⟩ → r ≠ g ∧ r ≠ b
theorem MAt.rd {w : World} {g b c : Nat} {A : Option Addr} {L : List Ent} (h : MAt w g b A c L) : RdE w w.heap.size A L := by
  rcases h.1 with ⟨_, _, _, h4⟩ | ⟨r, o, h1, _, _, h4⟩
  · rw [h4]; exact RdE.void _ _ _
  · rw [h1]; exact h4
theorem MAt.kept {w w' : World} {g b b' c : Nat} {A : Option Addr} {L : List Ent} (h : MAt w g b A c L) (hk : Kept2 g b w w') (hb : b' = b ∨ b' = g ∨ w.heap.size ≤ b') : MAt w' g b' A c L := by
  rcases h.1 with ⟨h1, h2, h3, h4⟩ | ⟨r, o, h1, h2, h3, h4⟩
  · exact ⟨.inl ⟨h1, h2, h3, h4⟩, fun r o e => by rw [h1] at e; cases e⟩
  · obtain ⟨n1, n2⟩ := h.2 r o h1
    obtain ⟨b0, o0, e0, hlt, _⟩ := h4 h2
    injection e0 with e0
    injection e0 with e0 e1
    subst e0
    have hbl := hk.block r hlt n1 n2
    refine ⟨.inr ⟨r, o, h1, h2, h3, fun hp => ?_⟩, fun r' o' e => ?_⟩
    · obtain ⟨b2, o2, e2, hlt2, hc⟩ := h4 hp
      injection e2 with e2
      injection e2 with e2 e3
      subst e2 e3
      exact ⟨r, o, rfl, Nat.lt_of_lt_of_le hlt hk.size, fun k hk' => ⟨(World.cell?_of_block (a := ⟨r, o + k * 2, none⟩) hbl).trans (hc k hk').1, (World.cell?_of_block (a := ⟨r, o + k * 2 + 1, none⟩) hbl).trans (hc k hk').2⟩⟩
    · rw [h1] at e
      injection e with e
      injection e with e
      subst e
      exact ⟨n1, by rcases hb with rfl | rfl | hb; exact n2; exact n1; omega⟩
theorem MAt.below {w w' : World} {g b c : Nat} {A : Option Addr} {L : List Ent} (h : MAt w g b A c L) (hk : Below w.heap.size w w') : MAt w' g b A c L := h.kept (Kept2.of_below hk) (.inl rfl)
/-- What the document's calls hand back. -/
theorem mat_own {w w0 : World} {g b : Nat} {v : Value} {L : List Ent} (h : w.ownsRow w0.heap.size 38 2 v L.length (entCs L)) (hn : L = [] → v = .slice none 0 0) (hg : g < w0.heap.size) (hb : b < w0.heap.size) : ∃ A c, v = .slice A L.length c ∧ MAt w g b A c L ∧ ∀ r o, A = some ⟨r, o, none⟩ → w0.heap.size ≤ r := by
  obtain ⟨A, c, hv, hr⟩ := tabE_own h rfl (fun h0 => hn (List.length_eq_zero_iff.1 h0))
  have hfar : ∀ r o, A = some ⟨r, o, none⟩ → w0.heap.size ≤ r := fun r o e => by
    obtain ⟨A2, c2, hv2, _, _, hge⟩ := own_rde h rfl
    rw [hv] at hv2
    injection hv2 with e1 _ e2
    subst e1
    rcases hr with ⟨h1, _⟩ | ⟨r2, o2, h1, h2, _⟩
    · rw [h1] at e; cases e
    · exact hge h2 _ e
  exact ⟨A, c, hv, ⟨hr, fun r o e => by have := hfar r o e; exact ⟨by omega, by omega⟩⟩, hfar⟩
theorem MAt.same {w w' : World} {g b c : Nat} {A : Option Addr} {L : List Ent} (h : MAt w g b A c L) (hs : w.heap.size ≤ w'.heap.size) (hk : ∀ r o, A = some ⟨r, o, none⟩ → w'.heap[r]? = w.heap[r]?) : MAt w' g b A c L := by
  refine ⟨?_, h.2⟩
  rcases h.1 with h1 | ⟨r, o, h1, h2, h3, h4⟩
  · exact .inl h1
  · refine .inr ⟨r, o, h1, h2, h3, fun hp => ?_⟩
    obtain ⟨b2, o2, e2, hlt2, hc⟩ := h4 hp
    injection e2 with e2
    injection e2 with e2 e3
    subst e2 e3
    have hbl := hk r o h1
    exact ⟨r, o, rfl, Nat.lt_of_lt_of_le hlt2 hs, fun k hk' => ⟨(World.cell?_of_block (a := ⟨r, o + k * 2, none⟩) hbl).trans (hc k hk').1, (World.cell?_of_block (a := ⟨r, o + k * 2 + 1, none⟩) hbl).trans (hc k hk').2⟩⟩
/-- A step of the document's table. -/
def actT (t : Tab) (e : ActE) : Tab := if e.name.size = 0 ∧ e.val.size = 0 then resT t e.most else addT t (e.name, e.val)
theorem isEmpty_is (s : ByteArray) : s.toList.isEmpty = decide (s.size = 0) := by
  rw [Lib.toList_data]
  have : s.data.toList.length = s.size := by rw [Array.length_toList]; rfl
  cases hl : s.data.toList with
  | nil => rw [hl] at this; exact (decide_eq_true this.symm).symm
  | cons x l => rw [hl] at this; exact (decide_eq_false (fun h => by rw [h] at this; cases this)).symm
theorem refAddN_any (M : Int) (A : Option Addr) (c : Nat) (L : List Ent) (x y : ByteArray) (R : List Ent) (w : World) (h : TabE w w.heap.size A L.length c L) (hnb : L.length ≤ 30000) (hs : sumL ((x, y) :: L) ≤ 1000000000) (hb1 : -9223372036854775808 ≤ M) (hb2 : M ≤ 9223372036854775807) (hR : Hid (leastL ((x, y) :: L) M.toNat = R)) :
    Calls Try.prog 27 #[.agg #[.int .i64 M, .slice A L.length c], .string x, .string y] w fun e w' => ∃ v, e = .returned (.agg #[.int .i64 M, v]) ∧ w'.ownsRow w.heap.size 38 2 v R.length (entCs R) ∧ Below w.heap.size w w' ∧ Hid (R = [] → v = .slice none 0 0) := by
  rcases h with ⟨rfl, rfl, h3, rfl⟩ | ⟨b, o, rfl, h2, h3, h4⟩
  · exact refAddN_nil M x y R w hs hb1 hb2 hR
  · exact refAddN_some M b o L.length c L x y R w (Lib.hid rfl) (Lib.hid h4) h2 hnb hs hb1 hb2 hR
end Tb

set_option maxHeartbeats 4000000 in
set_option maxRecDepth 100000 in
theorem play_is (g b : Nat) (t : Tab) (A : Option Addr) (c : Nat) (e : ActE) (w : World) (h : Hid (TAt w g b t)) (hf : Hid (Fit t)) (hm : Hid (MAt w g b A c t.2)) (hsum : sumL t.2 ≤ 900000000) (hx : e.name.size ≤ 1000000) (hy : e.val.size ≤ 1000000) (hb1 : -9223372036854775808 ≤ e.most) (hb2 : e.most ≤ 9223372036854775807) :
    Calls Try.prog 13 #[.pointer (some ⟨g, 0, none⟩), .agg #[.int .i64 (t.1 : Int), .slice A t.2.length c], .agg #[.string e.name, .string e.val, .int .i64 e.most]] w fun r w' => ∃ b' A' c', r = .returned (.agg #[.int .i64 ((actT t e).1 : Int), .slice A' (actT t e).2.length c']) ∧ TAt w' g b' (actT t e) ∧ MAt w' g b' A' c' (actT t e).2 ∧ Kept2 g b w w' ∧ (b' = b ∨ b' = g ∨ w.heap.size ≤ b') := by
  obtain ⟨x, y, most⟩ := e
  dsimp only at hx hy hb1 hb2 ⊢
  have hmx := h.out.2.2
  have hln := hf.out.1
  obtain ⟨hgl, hbl⟩ := h.out.lt
  obtain ⟨n, hn⟩ : ∃ n, t.2.length = n := ⟨_, rfl⟩
  obtain ⟨M, hM⟩ : ∃ M : Int, (t.1 : Int) = M := ⟨_, rfl⟩
  rw [hn, hM]
  obtain ⟨W, hW⟩ : ∃ W, ((w.alloc (.cells #[.int .i64 M, .slice A n c] 29)).alloc (.cells #[.string x, .string y, .int .i64 most] 34)).alloc (.cells #[.int .i64 0, .slice none 0 0] 29) = W := ⟨_, rfl⟩
  obtain ⟨E, hE⟩ : ∃ E, w.heap.size = E := ⟨_, rfl⟩
  have hBW : Below E w W := by rw [← hW, ← hE]; exact (((Below.refl _ w).alloc (Nat.le_refl _) _).alloc (by simp) _).alloc (by rw [World.size_alloc, World.size_alloc]; omega) _
  have k0 : W.heap[E]? = some (.cells #[.int .i64 M, .slice A n c] 29 (0, 0)) := by rw [← hW, ← hE]; exact (heap_alloc_old _ _ (by rw [World.size_alloc, World.size_alloc]; omega)).trans (heap_alloc2_old w _ _)
  have k1 : W.heap[E + 1]? = some (.cells #[.string x, .string y, .int .i64 most] 34 (0, 0)) := by rw [← hW, ← hE]; exact (heap_alloc_old _ _ (by rw [World.size_alloc, World.size_alloc]; omega)).trans (heap_alloc2_new w _ _)
  have k2 : W.heap[E + 2]? = some (.cells #[.int .i64 0, .slice none 0 0] 29 (0, 0)) := by
    have := heap_alloc_new ((w.alloc (.cells #[.int .i64 M, .slice A n c] 29)).alloc (.cells #[.string x, .string y, .int .i64 most] 34)) (.cells #[.int .i64 0, .slice none 0 0] 29)
    rw [hW] at this
    simp only [World.size_alloc] at this
    rw [hE] at this
    exact this
  have hTW := Lib.hid (h.out.below (by rw [hE]; exact hBW))
  have hMW := Lib.hid (hm.out.below (by rw [hE]; exact hBW))
  have HK0 := Lib.hid k0
  have HK1 := Lib.hid k1
  have HK2 := Lib.hid k2
  have HBW := Lib.hid hBW
  obtain ⟨a1, a2, a3, a4⟩ := two_cells k0
  obtain ⟨d1, d2, d3, d4, d5, d6⟩ := three_cells k1
  obtain ⟨f1, f2, f3, f4⟩ := two_cells k2
  have z1 := isEmpty_is x
  have z2 := isEmpty_is y
  rw [hE] at hgl hbl
  clear k0 k1 k2 hBW
  -- what lies behind the table's own call
  have FIN : Hid (∀ (t' : Tab) (w3 w4 : World) (b' : Nat) (v : Value), TAt w3 g b' t' → Kept2 g b W w3 → (b' = b ∨ b' = g ∨ W.heap.size ≤ b') → w4.ownsRow w3.heap.size 38 2 v t'.2.length (entCs t'.2) → Below w3.heap.size w3 w4 → (t'.2 = [] → v = .slice none 0 0) →
      ∃ A' c', v = .slice A' t'.2.length c' ∧ Hid (∀ z0, TAt ((w4.setCell ⟨E + 2, 0, none⟩ z0).setCell ⟨E + 2, 1, none⟩ v) g b' t' ∧ MAt ((w4.setCell ⟨E + 2, 0, none⟩ z0).setCell ⟨E + 2, 1, none⟩ v) g b' A' c' t'.2 ∧ Kept2 g b w ((w4.setCell ⟨E + 2, 0, none⟩ z0).setCell ⟨E + 2, 1, none⟩ v) ∧ (b' = b ∨ b' = g ∨ w.heap.size ≤ b'))) := Lib.hid fun t' w3 w4 b' v ht hk hb hO hB hnil => by
    obtain ⟨g3, b3⟩ := ht.lt
    obtain ⟨A', c', hv, hma, hfar⟩ := mat_own hO hnil g3 b3
    have hWs := hk.size
    have hE2 := world_lt HK2.out
    refine ⟨A', c', hv, Lib.hid fun z0 => ?_⟩
    have hne : ∀ k, k ≠ E + 2 → ((w4.setCell ⟨E + 2, 0, none⟩ z0).setCell ⟨E + 2, 1, none⟩ v).heap[k]? = w4.heap[k]? := fun k hk' => (Below.heap_setCell _ ⟨E + 2, 1, none⟩ v k hk').trans (Below.heap_setCell _ ⟨E + 2, 0, none⟩ z0 k hk')
    have hb2 : b' ≠ E + 2 := by rcases hb with rfl | rfl | hb <;> omega
    refine ⟨(ht.below hB).kept (by simp) (hne g (by omega)) (fun _ => hne b' hb2), hma.same (by simp) (fun r o e => hne r (by have := hfar r o e; omega)), ?_, by rcases hb with h | h | h; exact .inl h; exact .inr (.inl h); exact .inr (.inr (by rw [hE]; have := HBW.out.size; omega))⟩
    have hKW : Kept2 g b w W := Kept2.of_below (by rw [hE]; exact HBW.out)
    exact ((((hKW.trans hk (.inl rfl)).trans (Kept2.of_below (g := g) (b := b) hB) (.inl rfl))).setCell (p := ⟨E + 2, 0, none⟩) (.inr (.inr (by show _ ≤ E + 2; omega))) z0).setCell (p := ⟨E + 2, 1, none⟩) (.inr (.inr (by show _ ≤ E + 2; omega))) v
  have BOX : Hid (∀ (w3 : World), Kept2 g b W w3 → w3.heap[E]? = some (.cells #[.int .i64 M, .slice A n c] 29 (0, 0)) ∧ w3.heap[E + 1]? = some (.cells #[.string x, .string y, .int .i64 most] 34 (0, 0)) ∧ w3.heap[E + 2]? = some (.cells #[.int .i64 0, .slice none 0 0] 29 (0, 0))) := Lib.hid fun w3 hk =>
    ⟨(hk.block E (world_lt HK0.out) (by omega) (by omega)).trans HK0.out, (hk.block (E + 1) (world_lt HK1.out) (by omega) (by omega)).trans HK1.out, (hk.block (E + 2) (world_lt HK2.out) (by omega) (by omega)).trans HK2.out⟩
  have hnn : t.2.length ≤ 30000 := by omega
  by_cases hboth : x.size = 0 ∧ y.size = 0
  · have hst : actT t ⟨x, y, most⟩ = resT t most := if_pos hboth
    rw [hst]
    rw [decide_eq_true hboth.1] at z1
    rw [decide_eq_true hboth.2] at z2
    clear hst
    obtain ⟨M2, hM2⟩ : ∃ M2 : Int, (most.toNat : Int) = M2 := ⟨_, rfl⟩
    have hg2 : (((resT t most).1 : Nat) : Int) = M2 := hM2
    rw [hg2]
    have HRZ : Hid (∀ w3, MAt w3 g b A c t.2 → Calls Try.prog 26 #[.agg #[.int .i64 M, .slice A n c], .int .i64 most] w3 fun e w' => ∃ v, e = .returned (.agg #[.int .i64 M2, v]) ∧ w'.ownsRow w3.heap.size 38 2 v (resT t most).2.length (entCs (resT t most).2) ∧ Below w3.heap.size w3 w' ∧ Hid ((resT t most).2 = [] → v = .slice none 0 0)) := Lib.hid fun w3 hma => by
      rw [← hM2]
      exact refResizeN_is M most A n c t.2 (resT t most).2 w3 (Lib.hid hn) (Lib.hid hma.rd) (Lib.hid (by omega)) hb1 hb2 (Lib.hid rfl)
    clear hM2 hg2
    go_enter Try.func13, Try.ntmps13
    go_wp2_with fail
    refine (resize_is g b t most W hTW hf hb1 hb2).mono ?_
    rintro e w3 ⟨rfl, b', hT3, hK3, hbb⟩
    obtain ⟨y0, y1, y2⟩ := BOX.out w3 hK3
    obtain ⟨u1, u2, _, _⟩ := two_cells y0
    obtain ⟨v1, v2, v3, _, _, _⟩ := three_cells y1
    have hma3 := hMW.out.kept hK3 (.inl rfl)
    have HMA := Lib.hid hma3
    clear hma3
    go_wp2_with fail
    refine (HRZ.out _ HMA.out).mono ?_
    rintro e w4 ⟨v, rfl, hO, hB4, hNL⟩
    obtain ⟨A', c', rfl, HF⟩ := FIN.out (resT t most) w3 w4 b' v hT3 hK3 (by rcases hbb with h1 | h1; exact .inl h1; exact .inr (.inl h1)) hO hB4 hNL.out
    have q2 := (hB4.block (E + 2) (world_lt y2)).trans y2
    have Z0 := zero_set (y := .int .i64 M2) q2
    have Z1 := Lib.hid (two_set (x := .int .i64 M2) (y := .slice A' (resT t most).2.length c') q2)
    obtain ⟨p1, p2, p3, p4⟩ := two_cells q2
    obtain ⟨o1, o2, o3, o4⟩ := two_cells Z0
    obtain ⟨j1, j2, j3, j4⟩ := HF.out (.int .i64 M2)
    have J1 := Lib.hid j1
    have J2 := Lib.hid j2
    have J3 := Lib.hid j3
    have J4 := Lib.hid j4
    clear y0 y1 y2 q2 Z0 hO hB4 hT3 hK3 hbb HF j1 j2 j3 j4 hNL
    generalize hNN : (resT t most).2.length = nn at *
    have HNN := Lib.hid hNN
    clear hNN
    go_wp2_with fail
    exact bodyPost_ret (v := .agg #[.int .i64 M2, .slice A' nn c']) (results_cell_row rfl _ _ (E + 2) 29 #[.int .i64 M2, .slice A' nn c'] (0, 0) _ rfl Z1.out Try.underlying29 rfl tabInfo) rfl ⟨b', A', c', by rw [HNN.out], J1.out, J2.out, J3.out, J4.out⟩
  · have hst : actT t ⟨x, y, most⟩ = addT t (x, y) := if_neg hboth
    rw [hst]
    clear hst
    have hg2 : (((addT t (x, y)).1 : Nat) : Int) = M := hM
    rw [hg2]
    have HRZ : Hid (∀ w3, MAt w3 g b A c t.2 → Calls Try.prog 27 #[.agg #[.int .i64 M, .slice A n c], .string x, .string y] w3 fun e w' => ∃ v, e = .returned (.agg #[.int .i64 M, v]) ∧ w'.ownsRow w3.heap.size 38 2 v (addT t (x, y)).2.length (entCs (addT t (x, y)).2) ∧ Below w3.heap.size w3 w' ∧ Hid ((addT t (x, y)).2 = [] → v = .slice none 0 0)) := Lib.hid fun w3 hma => by
      rw [← hn]
      refine refAddN_any M A c t.2 x y (addT t (x, y)).2 w3 hma.1 hnn (by show sz (x, y) + sumL t.2 ≤ _; have : sz (x, y) = x.size + y.size + 32 := rfl; omega) (by omega) (by omega) (Lib.hid ?_)
      show leastL ((x, y) :: t.2) M.toNat = leastL ((x, y) :: t.2) t.1
      rw [← hM, Int.toNat_natCast]
    clear hg2
    by_cases h0 : x.size = 0
    · rw [decide_eq_true h0] at z1
      rw [decide_eq_false (fun h2 => hboth ⟨h0, h2⟩)] at z2
      go_enter Try.func13, Try.ntmps13
      go_wp2_with fail
      refine (add_is g b t x y W hTW hf hx hy).mono ?_
      rintro e w3 ⟨rfl, b', hT3, hK3, hbb⟩
      obtain ⟨y0, y1, y2⟩ := BOX.out w3 hK3
      obtain ⟨u1, u2, _, _⟩ := two_cells y0
      obtain ⟨v1, v2, v3, _, _, _⟩ := three_cells y1
      have hma3 := hMW.out.kept hK3 (.inl rfl)
      have HMA := Lib.hid hma3
      clear hma3
      go_wp2_with fail
      refine (HRZ.out _ HMA.out).mono ?_
      rintro e w4 ⟨v, rfl, hO, hB4, hNL⟩
      obtain ⟨A', c', rfl, HF⟩ := FIN.out (addT t (x, y)) w3 w4 b' v hT3 hK3 (by rcases hbb with h1 | h1 | h1; exact .inl h1; exact .inr (.inl h1); exact .inr (.inr h1)) hO hB4 hNL.out
      have q2 := (hB4.block (E + 2) (world_lt y2)).trans y2
      have Z0 := zero_set (y := .int .i64 M) q2
      have Z1 := Lib.hid (two_set (x := .int .i64 M) (y := .slice A' (addT t (x, y)).2.length c') q2)
      obtain ⟨p1, p2, p3, p4⟩ := two_cells q2
      obtain ⟨o1, o2, o3, o4⟩ := two_cells Z0
      obtain ⟨j1, j2, j3, j4⟩ := HF.out (.int .i64 M)
      have J1 := Lib.hid j1
      have J2 := Lib.hid j2
      have J3 := Lib.hid j3
      have J4 := Lib.hid j4
      clear y0 y1 y2 q2 Z0 hO hB4 hT3 hK3 hbb HF j1 j2 j3 j4 hNL
      generalize hNN : (addT t (x, y)).2.length = nn at *
      have HNN := Lib.hid hNN
      clear hNN
      go_wp2_with fail
      exact bodyPost_ret (v := .agg #[.int .i64 M, .slice A' nn c']) (results_cell_row rfl _ _ (E + 2) 29 #[.int .i64 M, .slice A' nn c'] (0, 0) _ rfl Z1.out Try.underlying29 rfl tabInfo) rfl ⟨b', A', c', by rw [HNN.out], J1.out, J2.out, J3.out, J4.out⟩
    · rw [decide_eq_false h0] at z1
      clear z2
      go_enter Try.func13, Try.ntmps13
      go_wp2_with fail
      refine (add_is g b t x y W hTW hf hx hy).mono ?_
      rintro e w3 ⟨rfl, b', hT3, hK3, hbb⟩
      obtain ⟨y0, y1, y2⟩ := BOX.out w3 hK3
      obtain ⟨u1, u2, _, _⟩ := two_cells y0
      obtain ⟨v1, v2, v3, _, _, _⟩ := three_cells y1
      have hma3 := hMW.out.kept hK3 (.inl rfl)
      have HMA := Lib.hid hma3
      clear hma3
      go_wp2_with fail
      refine (HRZ.out _ HMA.out).mono ?_
      rintro e w4 ⟨v, rfl, hO, hB4, hNL⟩
      obtain ⟨A', c', rfl, HF⟩ := FIN.out (addT t (x, y)) w3 w4 b' v hT3 hK3 (by rcases hbb with h1 | h1 | h1; exact .inl h1; exact .inr (.inl h1); exact .inr (.inr h1)) hO hB4 hNL.out
      have q2 := (hB4.block (E + 2) (world_lt y2)).trans y2
      have Z0 := zero_set (y := .int .i64 M) q2
      have Z1 := Lib.hid (two_set (x := .int .i64 M) (y := .slice A' (addT t (x, y)).2.length c') q2)
      obtain ⟨p1, p2, p3, p4⟩ := two_cells q2
      obtain ⟨o1, o2, o3, o4⟩ := two_cells Z0
      obtain ⟨j1, j2, j3, j4⟩ := HF.out (.int .i64 M)
      have J1 := Lib.hid j1
      have J2 := Lib.hid j2
      have J3 := Lib.hid j3
      have J4 := Lib.hid j4
      clear y0 y1 y2 q2 Z0 hO hB4 hT3 hK3 hbb HF j1 j2 j3 j4 hNL
      generalize hNN : (addT t (x, y)).2.length = nn at *
      have HNN := Lib.hid hNN
      clear hNN
      go_wp2_with fail
      exact bodyPost_ret (v := .agg #[.int .i64 M, .slice A' nn c']) (results_cell_row rfl _ _ (E + 2) 29 #[.int .i64 M, .slice A' nn c'] (0, 0) _ rfl Z1.out Try.underlying29 rfl tabInfo) rfl ⟨b', A', c', by rw [HNN.out], J1.out, J2.out, J3.out, J4.out⟩
end Go.Proofs.Ytchfineobpfinaa
