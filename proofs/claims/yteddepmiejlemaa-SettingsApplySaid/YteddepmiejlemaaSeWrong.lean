/- The document's wrong of layer 16. No condition. -/
import Derived.Test.YteddepmiejlemaaProg
import Derived.Test.YteddepmiejlemaaSeMath
import Derived.WalkKit
import Derived.Lib.Hide
import Derived.Laws.Rows
import Derived.Outline
import Derived.IntWalk
import Derived.WalkSpells
import Derived.WalkLawsBesides
import Derived.Deep.CutRange
namespace Go.Proofs.Yteddepmiejlemaa
open Go Go.RowKit Se
set_option linter.unusedVariables false

namespace Se
theorem box2 (w : World) (a b : Nat) : (w.alloc (.cells #[.int .u16 (a : Int), .int .u32 (b : Int)] 48)).cell? ⟨w.heap.size, 0, none⟩ = some (.int .u16 (a : Int)) ∧ (w.alloc (.cells #[.int .u16 (a : Int), .int .u32 (b : Int)] 48)).cell? ⟨w.heap.size, 1, none⟩ = some (.int .u32 (b : Int)) := by
  have h := heap_alloc_new w (.cells #[.int .u16 (a : Int), .int .u32 (b : Int)] 48)
  exact ⟨cell_of_row _ _ 0 _ _ _ h, cell_of_row _ _ 1 _ _ _ h⟩
end Se
set_option maxHeartbeats 8000000 in
set_option maxRecDepth 100000 in
theorem swrong_is (q : Bool) (a b c : Nat) (w : World) (ha : a < 65536) (hb : b < 4294967296) (hc : Hid (wrongS q (a, b) = c)) :
    Calls Try.prog 20 #[.bool q, .agg #[.int .u16 (a : Int), .int .u32 (b : Int)]] w fun e w' => e = .returned (.int .i64 (c : Int)) ∧ Below w.heap.size w w' := by
  obtain ⟨a0, a1⟩ := box2 w a b
  have HB := Lib.hid ((Below.refl _ w).alloc (Nat.le_refl _) (.cells #[.int .u16 (a : Int), .int .u32 (b : Int)] 48))
  have hcc := hc.out
  unfold wrongS at hcc
  simp only at hcc
  clear hc
  go_enter Try.func20, Try.ntmps20
  go_upto_region 1 with fail
  generalize w.alloc (.cells #[.int .u16 (a : Int), .int .u32 (b : Int)] 48) = W at *
  by_cases h2 : a = 2
  · have t2 : ((a : Int) == 2) = true := beq_iff_eq.2 (by omega)
    have t4 : ((a : Int) == 4) = false := beq_eq_false_iff_ne.2 (by omega)
    have t5 : ((a : Int) == 5) = false := beq_eq_false_iff_ne.2 (by omega)
    by_cases h1 : 1 < b
    · have s1 : (1 : Int) < (b : Int) := by omega
      rw [if_pos ⟨h2, .inl h1⟩] at hcc
      subst hcc
      clear h2 ha
      go_wp2_with fail
      go_ret
      exact ⟨rfl, HB.out⟩
    have s1 : ¬ (1 : Int) < (b : Int) := by omega
    have s1d : decide ((1 : Int) < (b : Int)) = false := decide_eq_false s1
    cases q with
    | false =>
      rw [if_neg (by rintro ⟨_, h | h⟩; exact h1 h; exact absurd h.1 (by decide)), if_neg (by omega), if_neg (by omega)] at hcc
      subst hcc
      clear h2 ha
      go_wp2_with fail
      go_ret
      exact ⟨rfl, HB.out⟩
    | true =>
      by_cases h0 : 0 < b
      · have s0 : (0 : Int) < (b : Int) := by omega
        rw [if_pos ⟨h2, .inr ⟨rfl, h0⟩⟩] at hcc
        subst hcc
        clear h2 ha
        go_wp2_with fail
        go_ret
        exact ⟨rfl, HB.out⟩
      · have s0 : ¬ (0 : Int) < (b : Int) := by omega
        have s0d : decide ((0 : Int) < (b : Int)) = false := decide_eq_false s0
        rw [if_neg (by rintro ⟨_, h | h⟩; exact h1 h; exact h0 h.2), if_neg (by omega), if_neg (by omega)] at hcc
        subst hcc
        clear h2 ha
        go_wp2_with fail
        go_ret
        exact ⟨rfl, HB.out⟩
  have t2 : ((a : Int) == 2) = false := beq_eq_false_iff_ne.2 (by omega)
  rw [if_neg (by rintro ⟨h, _⟩; exact h2 h)] at hcc
  by_cases h4 : a = 4
  · have t4 : ((a : Int) == 4) = true := beq_iff_eq.2 (by omega)
    have t5 : ((a : Int) == 5) = false := beq_eq_false_iff_ne.2 (by omega)
    by_cases h1 : 2147483648 ≤ b
    · have s1 : (2147483648 : Int) ≤ (b : Int) := by omega
      rw [if_pos ⟨h4, h1⟩] at hcc
      subst hcc
      clear h4 ha h2
      go_wp2_with fail
      go_ret
      exact ⟨rfl, HB.out⟩
    · have s1 : ¬ (2147483648 : Int) ≤ (b : Int) := by omega
      have s1d : decide ((2147483648 : Int) ≤ (b : Int)) = false := decide_eq_false s1
      rw [if_neg (by rintro ⟨_, h⟩; exact h1 h), if_neg (by omega)] at hcc
      subst hcc
      clear h4 ha h2
      go_wp2_with fail
      go_ret
      exact ⟨rfl, HB.out⟩
  have t4 : ((a : Int) == 4) = false := beq_eq_false_iff_ne.2 (by omega)
  rw [if_neg (by rintro ⟨h, _⟩; exact h4 h)] at hcc
  by_cases h5 : a = 5
  · have t5 : ((a : Int) == 5) = true := beq_iff_eq.2 (by omega)
    by_cases h1 : b < 16384
    · have s1 : (b : Int) < 16384 := by omega
      rw [if_pos ⟨h5, .inl h1⟩] at hcc
      subst hcc
      clear h5 ha h2 h4
      go_wp2_with fail
      go_ret
      exact ⟨rfl, HB.out⟩
    have s1 : ¬ (b : Int) < 16384 := by omega
    have s1d : decide ((b : Int) < 16384) = false := decide_eq_false s1
    by_cases h6 : 16777216 ≤ b
    · have s2 : (16777216 : Int) ≤ (b : Int) := by omega
      rw [if_pos ⟨h5, .inr h6⟩] at hcc
      subst hcc
      clear h5 ha h2 h4
      go_wp2_with fail
      go_ret
      exact ⟨rfl, HB.out⟩
    · have s2 : ¬ (16777216 : Int) ≤ (b : Int) := by omega
      have s2d : decide ((16777216 : Int) ≤ (b : Int)) = false := decide_eq_false s2
      rw [if_neg (by rintro ⟨_, h | h⟩; exact h1 h; exact h6 h)] at hcc
      subst hcc
      clear h5 ha h2 h4
      go_wp2_with fail
      go_ret
      exact ⟨rfl, HB.out⟩
  · have t5 : ((a : Int) == 5) = false := beq_eq_false_iff_ne.2 (by omega)
    rw [if_neg (by rintro ⟨h, _⟩; exact h5 h)] at hcc
    subst hcc
    clear h5 ha h2 h4
    go_wp2_with fail
    go_ret
    exact ⟨rfl, HB.out⟩
end Go.Proofs.Yteddepmiejlemaa
