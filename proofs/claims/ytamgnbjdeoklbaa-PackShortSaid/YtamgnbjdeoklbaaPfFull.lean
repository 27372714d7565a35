/- The contracts of prefix's full, and of the document's Full: 2^N - 1. No condition. -/
import Derived.Test.YtamgnbjdeoklbaaProg
import Derived.Test.YtamgnbjdeoklbaaPfMath
import Derived.WalkKit
import Derived.Lib.Hide
import Derived.Lib.MinMax
import Derived.Outline
import Derived.IntWalk
import Derived.WalkSpells
namespace Go.Proofs.Ytamgnbjdeoklbaa
open Go.RowKit Pf

theorem kOf_cases (b : Int) : (b ≤ 1 ∧ kOf b = 1) ∨ (b = 2 ∧ kOf b = 2) ∨ (b = 3 ∧ kOf b = 3) ∨ (b = 4 ∧ kOf b = 4) ∨ (b = 5 ∧ kOf b = 5) ∨ (b = 6 ∧ kOf b = 6) ∨ (b = 7 ∧ kOf b = 7) ∨ (8 ≤ b ∧ kOf b = 8) := by
  unfold kOf
  omega
theorem full_is (b : Int) (f : Nat) (w : World) (h1 : -9223372036854775808 ≤ b) (h2 : b ≤ 9223372036854775807) (h : Hid (fullN b = f)) :
    Calls Try.prog 72 #[.int .i64 b] w fun e w' => e = .returned (.int .u64 f) ∧ w = w' := by
  have hf := h.out
  unfold fullN at hf
  clear h
  rcases kOf_cases b with ⟨hb, hk⟩ | ⟨rfl, hk⟩ | ⟨rfl, hk⟩ | ⟨rfl, hk⟩ | ⟨rfl, hk⟩ | ⟨rfl, hk⟩ | ⟨rfl, hk⟩ | ⟨hb, hk⟩
  · rw [hk] at hf
    subst hf
    have em : max b 1 = 1 := by omega
    clear hk
    go_enter Try.func72, Try.ntmps72
    go_wp2
    go_ret
    exact ⟨rfl, rfl⟩
  all_goals first
    | (rw [hk] at hf
       subst hf
       have em : max b 1 = b := by omega
       have en : min b 8 = 8 := by omega
       clear hk
       go_enter Try.func72, Try.ntmps72
       go_wp2
       go_ret
       exact ⟨rfl, rfl⟩)
    | (rw [hk] at hf
       subst hf
       clear hk
       go_enter Try.func72, Try.ntmps72
       go_wp2
       go_ret
       exact ⟨rfl, rfl⟩)
theorem pow_le8 {k : Nat} (h : k ≤ 8) : 2 ^ k ≤ 256 := Nat.pow_le_pow_right (n := 2) (by omega) h
theorem refFull_is (b : Int) (f : Nat) (w : World) (h1 : -9223372036854775808 ≤ b) (h2 : b ≤ 9223372036854775807) (h : Hid (fullN b = f)) :
    Calls Try.prog 54 #[.int .i64 b] w fun e w' => e = .returned (.int .u64 f) ∧ w = w' := by
  go_enter Try.func54, Try.ntmps54
  go_wp2_with fail
  go_loop [3, 4] (fun n i => ∃ (k x : Nat), 1 ≤ k ∧ k ≤ 8 ∧ k ≤ kOf b ∧ x ≤ 255 ∧ i = .int .i64 k ∧ n = .int .u64 x ∧ Hid (x + 1 = 2 ^ k)) (fun _ i => 8 - (intOf i).toNat)
  case atStart => exact ⟨1, 1, by omega, by omega, (kOf_bd b).1, by omega, rfl, rfl, Lib.hid rfl⟩
  case round =>
    obtain ⟨k, x, hk1, hk8, hkb, hx, rfl, rfl, hX⟩ := hrel
    by_cases hc : (k : Int) < b
    · by_cases h8 : k < 8
      · have hkb' : k + 1 ≤ kOf b := by unfold kOf; omega
        have hX2 : Hid (x * 2 + 1 + 1 = 2 ^ (k + 1)) := by
          have := hX.out
          show _ = _
          rw [Nat.pow_succ]; omega
        have hx2 : x * 2 + 1 ≤ 255 := by
          have := hX2.out
          have := pow_le8 (show k + 1 ≤ 8 by omega)
          omega
        have h8' : (k : Int) < 8 := by omega
        clear hX
        go_wp2_with fail
        go_round
        case rel => exact ⟨k + 1, x * 2 + 1, by omega, by omega, hkb', hx2, by go_num, by go_num, hX2⟩
        case measure => simp [intOf]; omega
      · have hf : x = f := by
          have h3 := h.out
          have h4 := hX.out
          unfold fullN at h3
          rw [show kOf b = k by unfold kOf; omega] at h3
          omega
        subst hf
        have h8' : ¬ (k : Int) < 8 := by omega
        clear hX
        go_wp2_with fail
        go_ret
        exact ⟨rfl, rfl⟩
    · have hf : x = f := by
        have h3 := h.out
        have h4 := hX.out
        unfold fullN at h3
        rw [show kOf b = k by unfold kOf at hkb ⊢; omega] at h3
        omega
      subst hf
      have hd : decide ((k : Int) < b) = false := decide_eq_false hc
      clear hX
      go_wp2_with fail
      go_ret
      exact ⟨rfl, rfl⟩
end Go.Proofs.Ytamgnbjdeoklbaa
