/- The laws' awake: true. No condition. -/
import Derived.Test.YtchfineobpfinaaProg
import Derived.Test.YtchfineobpfinaaTbMath
import Derived.Test.YtchfineobpfinaaTbMem
import Derived.Test.YtchfineobpfinaaTbLeast
import Derived.Test.YtchfineobpfinaaTbFix
import Derived.Test.YtchfineobpfinaaTbAt
import Derived.Test.YtchfineobpfinaaTcMem
import Derived.Test.YtchfineobpfinaaTcLow
import Derived.Test.YtchfineobpfinaaTcShrink
import Derived.Test.YtchfineobpfinaaTcAdd
import Derived.Test.YtchfineobpfinaaTcAt
import Derived.Test.YtchfineobpfinaaTcFind
import Derived.WalkKit
import Derived.Lib.Hide
import Derived.Outline
import Derived.IntWalk
import Derived.WalkSpells
import Derived.WalkLawsBesides
namespace Go.Proofs.Ytchfineobpfinaa
open Go.RowKit Tb

namespace Tb
def tA : Tab := newT 100
def tB : Tab := addT tA (⟨#[97]⟩, ⟨#[98]⟩)
def tC : Tab := addT tB (⟨#[99]⟩, ⟨#[100]⟩)
theorem tC_is : tC = (100, [(⟨#[99]⟩, ⟨#[100]⟩), (⟨#[97]⟩, ⟨#[98]⟩)]) := by kernel_rfl
theorem small_two : SmallE tC.2 := by rw [tC_is]; intro e he; simp at he; rcases he with rfl | rfl <;> decide
theorem fitA : Fit tA := ⟨by decide, (fun e he => by cases he), by decide⟩
theorem fitB : Fit tB := ⟨by decide, (fun e he => by
  have : tB.2 = [(⟨#[97]⟩, ⟨#[98]⟩)] := by kernel_rfl
  rw [this] at he; simp at he; subst he; decide), by decide⟩
theorem fitC : Fit tC := ⟨by decide, small_two, by decide⟩
end Tb

set_option maxHeartbeats 4000000 in
set_option maxRecDepth 100000 in
theorem awake_is (w : World) : Calls Try.prog 8 #[] w fun e w' => e = .returned (.bool true) ∧ Below w.heap.size w w' := by
  have A62 : Hid (atR (fixedT ++ tC.2) 62 = ((⟨#[99]⟩, ⟨#[100]⟩), true)) := Lib.hid (by kernel_rfl)
  have A2 : Hid (atR (fixedT ++ tC.2) 2 = ((⟨#[58, 109, 101, 116, 104, 111, 100]⟩, ⟨#[71, 69, 84]⟩), true)) := Lib.hid (by kernel_rfl)
  have F1 : Hid (findT ⟨#[97]⟩ ⟨#[98]⟩ (fixedT ++ tC.2) = (63, true)) := Lib.hid (by kernel_rfl)
  obtain ⟨g, hg⟩ : ∃ g, w.heap.size = g := ⟨_, rfl⟩
  have G := Lib.hid hg
  clear hg
  go_enter Try.func8, Try.ntmps8
  go_wp2_with fail
  refine (new_is 100 w (by omega) (by omega)).mono ?_
  rintro e w1 ⟨rfl, hT1, hB1⟩
  rw [G.out] at hT1 hB1
  rw [G.out]
  have T1 := Lib.hid hT1
  have B1 := Lib.hid hB1
  clear hT1 hB1
  go_wp2_with fail
  refine (add_is g g tA ⟨#[97]⟩ ⟨#[98]⟩ w1 T1 (Lib.hid fitA) (by decide) (by decide)).mono ?_
  rintro e w2 ⟨rfl, b2, hT2, hK2, hb2⟩
  have T2 := Lib.hid hT2
  have hgb2 : g ≤ b2 := by have := B1.out.size; have := G.out; omega
  have B2 := Lib.hid (hK2.below B1.out (Nat.le_refl _) (Nat.le_refl _) (by have := T1.out.lt.1; omega))
  clear hT2 hK2 hb2
  go_wp2_with fail
  refine (add_is g b2 tB ⟨#[99]⟩ ⟨#[100]⟩ w2 T2 (Lib.hid fitB) (by decide) (by decide)).mono ?_
  rintro e w3 ⟨rfl, b3, hT3, hK3, hb3⟩
  have T3 : Hid (TAt w3 g b3 tC) := Lib.hid hT3
  have B3 := Lib.hid (hK3.below B2.out (Nat.le_refl _) hgb2 (by have := T2.out.lt.1; omega))
  have hg3 : g ≤ w3.heap.size := by have := T3.out.lt.1; omega
  clear hT3 hK3 hb3
  go_wp2_with fail
  refine (at_is g b3 tC 62 _ _ _ w3 T3 (Lib.hid fitC) (by omega) (by omega) A62).mono ?_
  rintro e w4 ⟨rfl, hB4⟩
  have T4 := Lib.hid (T3.out.below hB4)
  have B4 := Lib.hid (B3.out.trans (hB4.mono hg3))
  have hg4 : g ≤ w4.heap.size := by have := T4.out.lt.1; omega
  clear hB4
  go_wp2_with fail
  refine (find_is g b3 tC _ _ _ _ w4 T4 (Lib.hid fitC) F1).mono ?_
  rintro e w5 ⟨rfl, hB5⟩
  have T5 := Lib.hid (T4.out.below hB5)
  have B5 := Lib.hid (B4.out.trans (hB5.mono hg4))
  have hg5 : g ≤ w5.heap.size := by have := T5.out.lt.1; omega
  clear hB5
  go_wp2_with fail
  refine (at_is g b3 tC 2 _ _ _ w5 T5 (Lib.hid fitC) (by omega) (by omega) A2).mono ?_
  rintro e w6 ⟨rfl, hB6⟩
  obtain ⟨⟨ao, off, c, hT6⟩, _⟩ := T5.out.below hB6
  have B6 := Lib.hid (B5.out.trans (hB6.mono hg5))
  have h6 : w6.heap[g]? = some (.cells #[.int .i64 100, .int .i64 68, .slice ao 2 c] 56 (0, 0)) := by
    have h0 : w6.heap[g]? = some (.cells #[.int .i64 (tC.1 : Int), .int .i64 (sumL tC.2.reverse : Int), .slice ao tC.2.reverse.length c] 56 (0, 0)) := hT6.1
    have e1 : sumL tC.2.reverse = 68 := by kernel_rfl
    have e2 : tC.2.reverse.length = 2 := by kernel_rfl
    have e3 : tC.1 = 100 := by kernel_rfl
    rw [e1, e2, e3] at h0
    exact h0
  have H6 := Lib.hid h6
  clear hB6 hT6 h6
  go_wp2_with fail
  refine (size_is g _ _ _ _ w6 H6).mono ?_
  rintro e w7 ⟨rfl, rfl⟩
  go_wp2_with fail
  refine (len_is g _ _ _ _ _ _ w7 H6).mono ?_
  rintro e w8 ⟨rfl, rfl⟩
  go_wp2_with fail
  refine (most_is g _ _ _ _ w8 H6).mono ?_
  rintro e w9 ⟨rfl, rfl⟩
  go_wp2_with fail
  go_ret
  exact ⟨rfl, by first | exact B6.out | (rw [G.out]; exact B6.out)⟩
end Go.Proofs.Ytchfineobpfinaa
