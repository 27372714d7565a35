/- The laws' same: a table tells just what the document's does. For at most 1000 entries, 10^9 bytes together. -/
import Derived.Test.YtchfineobpfinaaProg
import Derived.Test.YtchfineobpfinaaTbMath
import Derived.Test.YtchfineobpfinaaTbMem
import Derived.Test.YtchfineobpfinaaTbLeast
import Derived.Test.YtchfineobpfinaaTbRef
import Derived.Test.YtchfineobpfinaaTbFix
import Derived.Test.YtchfineobpfinaaTbAll
import Derived.Test.YtchfineobpfinaaTbAt
import Derived.Test.YtchfineobpfinaaTcMem
import Derived.Test.YtchfineobpfinaaTcLow
import Derived.Test.YtchfineobpfinaaTcShrink
import Derived.Test.YtchfineobpfinaaTcAdd
import Derived.Test.YtchfineobpfinaaTcAt
import Derived.WalkKit
import Derived.Lib.Hide
import Derived.Outline
import Derived.IntWalk
import Derived.WalkSpells
import Derived.WalkLawsBesides
import Derived.Deep.RegionHeld3
import Derived.Laws.Rows
namespace Go.Proofs.Ytchfineobpfinaa
open Go.RowKit Tb

namespace Tb
/-- What same's calls keep. -/
def SmS (g E : Nat) (u0 u1 u2 m0 m1 : Value) (w w' : World) : Prop := w'.heap[g]? = some (.cells #[u0, u1, u2] 56 (0, 0)) ∧ w'.cell? ⟨E, 0, none⟩ = some m0 ∧ w'.cell? ⟨E, 1, none⟩ = some m1 ∧ Below w.heap.size w w'
end Tb

set_option maxHeartbeats 4000000 in
set_option maxRecDepth 100000 in
theorem same_is (g b : Nat) (t : Tab) (A : Option Addr) (c : Nat) (w : World) (h : Hid (TAt w g b t)) (hf : Hid (Fit t)) (hm : Hid (TabE w w.heap.size A t.2.length c t.2)) :
    Calls Try.prog 12 #[.pointer (some ⟨g, 0, none⟩), .agg #[.int .i64 (t.1 : Int), .slice A t.2.length c]] w fun e w' => e = .returned (.bool true) ∧ Below w.heap.size w w' := by
  obtain ⟨⟨ao, off, cc, hT0⟩, hok, hmx⟩ := h.out
  have hln := hf.out.1
  have hsu := hf.out.2.2
  obtain ⟨n, hn⟩ : ∃ n, t.2.length = n := ⟨_, rfl⟩
  have hrl : t.2.reverse.length = n := by rw [List.length_reverse]; exact hn
  obtain ⟨M, hM⟩ : ∃ M : Int, (t.1 : Int) = M := ⟨_, rfl⟩
  obtain ⟨S, hS⟩ : ∃ S : Nat, sumL t.2 = S := ⟨_, rfl⟩
  unfold TRaw at hT0
  rw [hrl, sum_rev, hM, hS] at hT0
  have hm2 := hm.out
  rw [hn] at hln hm2 ⊢
  rw [hM]
  rw [hS] at hsu
  obtain ⟨E, hE⟩ : ∃ E, w.heap.size = E := ⟨_, rfl⟩
  obtain ⟨W, hW⟩ : ∃ W, w.alloc (.cells #[.int .i64 M, .slice A n c] 29) = W := ⟨_, rfl⟩
  have hBW : Below E w W := by rw [← hW, ← hE]; exact (Below.refl _ w).alloc (Nat.le_refl _) _
  have k0 : W.heap[E]? = some (.cells #[.int .i64 M, .slice A n c] 29 (0, 0)) := by rw [← hW, ← hE]; exact heap_alloc_new w _
  have hTW := h.out.below (w' := W) (by rw [hE]; exact hBW)
  have hMW : TabE W W.heap.size A n c t.2 := hm2.on (by rw [hE]; exact hBW) (by have := hBW.size; omega)
  have hgW : W.heap[g]? = some (.cells #[.int .i64 M, .int .i64 (S : Int), .slice ao n cc] 56 (0, 0)) := (hBW.block g (by rw [← hE]; exact world_lt hT0.1)).trans hT0.1
  obtain ⟨a1, a2, a3, a4⟩ := two_cells k0
  obtain ⟨q1, q2, _, _⟩ := two_cells (w := W.drew) k0
  have HS0 : SmS g E (.int .i64 M) (.int .i64 (S : Int)) (.slice ao n cc) (.int .i64 M) (.slice A n c) W W := ⟨hgW, a1, a2, Below.refl _ _⟩
  have HS1 : SmS g E (.int .i64 M) (.int .i64 (S : Int)) (.slice ao n cc) (.int .i64 M) (.slice A n c) W W.drew := ⟨hgW, q1, q2, (Below.refl _ _).drew⟩
  have HMo : Hid (∀ X, SmS g E (.int .i64 M) (.int .i64 (S : Int)) (.slice ao n cc) (.int .i64 M) (.slice A n c) W X → Calls Try.prog 22 #[.pointer (some ⟨g, 0, none⟩)] X fun e w' => e = .returned (.int .i64 M) ∧ w' = X) := Lib.hid fun X hX => most_is g _ _ _ _ X (Lib.hid hX.1)
  have HSi : Hid (∀ X, SmS g E (.int .i64 M) (.int .i64 (S : Int)) (.slice ao n cc) (.int .i64 M) (.slice A n c) W X → Calls Try.prog 23 #[.pointer (some ⟨g, 0, none⟩)] X fun e w' => e = .returned (.int .i64 (S : Int)) ∧ w' = X) := Lib.hid fun X hX => size_is g _ _ _ _ X (Lib.hid hX.1)
  have HLe : Hid (∀ X, SmS g E (.int .i64 M) (.int .i64 (S : Int)) (.slice ao n cc) (.int .i64 M) (.slice A n c) W X → Calls Try.prog 19 #[.pointer (some ⟨g, 0, none⟩)] X fun e w' => e = .returned (.int .i64 (n : Int)) ∧ w' = X) := Lib.hid fun X hX => len_is g _ _ _ _ _ _ X (Lib.hid hX.1)
  have hrd : ∀ X, Below W.heap.size W X → TabE X X.heap.size A n c t.2 := fun X hX => hMW.on hX hX.size
  have HRd := Lib.hid hrd
  have HRs : Hid (∀ X, SmS g E (.int .i64 M) (.int .i64 (S : Int)) (.slice ao n cc) (.int .i64 M) (.slice A n c) W X → Calls Try.prog 25 #[.agg #[.int .i64 M, .slice A n c]] X fun e w' => e = .returned (.int .i64 (S : Int)) ∧ w'.cell? ⟨E, 0, none⟩ = some (.int .i64 M) ∧ w'.cell? ⟨E, 1, none⟩ = some (.slice A n c) ∧ SmS g E (.int .i64 M) (.int .i64 (S : Int)) (.slice ao n cc) (.int .i64 M) (.slice A n c) W w') := Lib.hid fun X hX => by
    have hre : RdE X X.heap.size A t.2 := by
      rcases HRd.out X hX.2.2.2 with ⟨_, _, _, h4⟩ | ⟨r, o, h1, _, _, h4⟩
      · rw [h4]; exact RdE.void _ _ _
      · rw [h1]; exact h4
    refine (refSize_is M A n c t.2 S X (Lib.hid hn) (Lib.hid hre) (Lib.hid (by rw [hS]; exact hsu)) (Lib.hid hS)).mono fun e w' ⟨he, hB⟩ => ?_
    have e0 := (hB.cell (p := ⟨E, 0, none⟩) (World.block_lt_of_cell? _ _ hX.2.1)).trans hX.2.1
    have e1 := (hB.cell (p := ⟨E, 1, none⟩) (World.block_lt_of_cell? _ _ hX.2.2.1)).trans hX.2.2.1
    exact ⟨he, e0, e1, (hB.block g (world_lt hX.1)).trans hX.1, e0, e1, hX.2.2.2.trans (hB.mono hX.2.2.2.size)⟩
  have HBW := Lib.hid hBW
  have G := Lib.hid hE
  have HTW := Lib.hid hTW
  clear hrd hMW hTW hBW k0 hgW
  go_enter Try.func12, Try.ntmps12
  go_upto_region 1 with fail
  go_region_held3 (fun w' => w'.cell? ⟨E, 0, none⟩ = some (.int .i64 M) ∧ w'.cell? ⟨E, 1, none⟩ = some (.slice A n c) ∧ SmS g E (.int .i64 M) (.int .i64 (S : Int)) (.slice ao n cc) (.int .i64 M) (.slice A n c) W w') (first | go_keep | exact ⟨a1, a2, HS0⟩ | exact ⟨q1, q2, HS1⟩ | exact ⟨c0, c1, hS5⟩) (first | (go_at_call 22; (with_reducible refine (HMo.out _ ?_).mono ?_); (first | assumption | (simp [*])); rintro e w5 ⟨rfl, rfl⟩) | (go_at_call 23; (with_reducible refine (HSi.out _ ?_).mono ?_); (first | assumption | (simp [*])); rintro e w5 ⟨rfl, rfl⟩) | (go_at_call 19; (with_reducible refine (HLe.out _ ?_).mono ?_); (first | assumption | (simp [*])); rintro e w5 ⟨rfl, rfl⟩) | (go_at_call 25; (with_reducible refine (HRs.out _ ?_).mono ?_); (first | assumption | (simp [*])); rintro e w5 ⟨rfl, c0, c1, hS5⟩))
  have hB5 := hS5.2.2.2
  have HB5 := Lib.hid hB5
  have HM5 := Lib.hid (HRd.out w5 hB5)
  clear hB5 hS5 HS0 HS1 a1 a2 a3 a4 q1 q2
  go_wp2_with fail
  refine (all_is M A n c t.2 w5 HM5 (by omega)).mono ?_
  rintro e w6 ⟨gl, cap, rfl, _, hB6⟩
  have HB6 := Lib.hid (HB5.out.trans (hB6.mono HB5.out.size))
  have hWE : E < W.heap.size := by have := HBW.out.size; rw [← hW, World.size_alloc, hE]; omega
  have HWE := Lib.hid hWE
  have k0 : W.heap[E]? = some (.cells #[.int .i64 M, .slice A n c] 29 (0, 0)) := by rw [← hW, ← hE]; exact heap_alloc_new w _
  have HK0 := Lib.hid k0
  have el : IntKind.i64.wrap ((61 : Int) + (n : Int) + 1) = ((62 + n : Nat) : Int) := by rw [IntKind.wrap_i64]; omega
  clear hB6 c0 c1 hWE k0
  generalize hnn : 62 + n = nn at el
  have HNN := Lib.hid hnn
  clear hnn
  go_wp2_with fail
  go_loopw [6, 7, 8, 9, 10, 11] (fun i u7 u8 u9 u10 u11 wr => ∃ k : Nat, k ≤ nn + 1 ∧ i = .int .i64 (k : Int) ∧ Hid (Below W.heap.size W wr)) (fun i _ _ _ _ _ _ => nn + 1 - (intOf i).toNat)
  case atStart => exact ⟨0, by omega, rfl, HB6⟩
  case round =>
    obtain ⟨k, hk, rfl, hBw⟩ := hrel
    have hnn2 := HNN.out
    by_cases hlt : k ≤ nn
    · have hli : (k : Int) ≤ (nn : Int) := by omega
      obtain ⟨x, y, q, hR⟩ : ∃ x y q, atR (fixedT ++ t.2) (k : Int) = ((x, y), q) := ⟨_, _, _, rfl⟩
      have hki1 : -9223372036854775808 ≤ (k : Int) := by omega
      have hki2 : (k : Int) ≤ 9223372036854775807 := by omega
      have e1 : IntKind.i64.wrap ((k : Int) + 1) = ((k + 1 : Nat) : Int) := by rw [IntKind.wrap_i64]; omega
      have HR := Lib.hid hR
      have HTr := Lib.hid (HTW.out.below hBw.out)
      clear hR hnn2
      go_wp2_with fail
      refine (at_is g b t (k : Int) x y q wr HTr hf hki1 hki2 HR).mono ?_
      rintro e w7 ⟨rfl, hB7⟩
      have hBW7 := hBw.out.trans (hB7.mono hBw.out.size)
      obtain ⟨p1, p2, _, _⟩ := two_cells ((hBW7.block E HWE.out).trans HK0.out)
      have HM7 := Lib.hid (HRd.out w7 hBW7)
      have HBW7 := Lib.hid hBW7
      clear hB7 hBW7
      go_wp2_with fail
      refine (refAt_is M A n c t.2 (k : Int) x y q w7 HM7 (Lib.hid hn) (by omega) hki1 hki2 HR).mono ?_
      rintro e w8 ⟨rfl, hB8⟩
      have hBW8 := HBW7.out.trans (hB8.mono HBW7.out.size)
      have hBA := (Below.refl w8.heap.size w8).alloc (Nat.le_refl _) (.cells #[.string x, .string y] 38)
      have HBA := Lib.hid (hBW8.trans (hBA.mono hBW8.size))
      obtain ⟨r1, r2, _, _⟩ := two_cells (heap_alloc_new w8 (.cells #[.string x, .string y] 38))
      clear hB8 hBW8 hBA
      go_wp2_with fail
      go_roundw
      case rel => exact ⟨k + 1, by omega, rfl, HBA⟩
      case measure => simp [intOf] <;> omega
    · have hli : ¬ (k : Int) ≤ (nn : Int) := by omega
      have hfin := Lib.hid (HBW.out.trans (hBw.out.mono (by have := HBW.out.size; have := G.out; omega)))
      go_wp2_with fail
      go_ret
      exact ⟨rfl, by first | exact hfin.out | (rw [G.out]; exact hfin.out)⟩
end Go.Proofs.Ytchfineobpfinaa
