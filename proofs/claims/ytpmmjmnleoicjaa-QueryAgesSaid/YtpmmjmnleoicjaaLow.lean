/- The contracts of text's within and lower, and of the document's in. No condition. -/
import Derived.Test.YtpmmjmnleoicjaaProg
import Derived.Test.YtpmmjmnleoicjaaBytes
import Derived.Test.YtpmmjmnleoicjaaLowMath
import Derived.WalkKit
import Derived.Lib.Hide
import Derived.Outline
import Derived.WalkSpells
import Derived.IntWalk
namespace Go.Proofs.Ytpmmjmnleoicjaa
open Go.RowKit Bytes Low

theorem inB_true {a b : Nat} {c : UInt8} (h : a ≤ c.toNat ∧ c.toNat ≤ b) : inB a b c = true := decide_eq_true h
theorem inB_false {a b : Nat} {c : UInt8} (h : ¬ (a ≤ c.toNat ∧ c.toNat ≤ b)) : inB a b c = false := decide_eq_false h

theorem within_any (c : UInt8) (a b : Nat) (w : World) :
    Calls Try.prog 144 #[.int .u8 c.toNat, .int .u8 a, .int .u8 b] w fun e w' => e = .returned (.bool (inB a b c)) ∧ w = w' := by
  have hl := c.toNat_lt
  by_cases h1 : a ≤ c.toNat
  · by_cases h2 : c.toNat ≤ b
    · have e := Lib.hid (inB_true ⟨h1, h2⟩)
      go_enter Try.func144, Try.ntmps144
      go_wp2
      go_ret
      exact ⟨by rw [e.out]; rfl, rfl⟩
    · have e := Lib.hid (inB_false (c := c) (a := a) (b := b) (fun h => h2 h.2))
      go_enter Try.func144, Try.ntmps144
      go_wp2
      go_ret
      exact ⟨by rw [e.out]; rfl, rfl⟩
  · have e := Lib.hid (inB_false (c := c) (a := a) (b := b) (fun h => h1 h.1))
    go_enter Try.func144, Try.ntmps144
    go_wp2
    go_ret
    exact ⟨by rw [e.out]; rfl, rfl⟩

theorem in_any (c : UInt8) (a b : Nat) (w : World) :
    Calls Try.prog 127 #[.int .u8 c.toNat, .int .u8 a, .int .u8 b] w fun e w' => e = .returned (.bool (inB a b c)) ∧ w = w' := by
  have hl := c.toNat_lt
  by_cases h1 : a ≤ c.toNat
  · by_cases h2 : c.toNat ≤ b
    · have e := Lib.hid (inB_true ⟨h1, h2⟩)
      go_enter Try.func127, Try.ntmps127
      go_wp2
      go_ret
      exact ⟨by rw [e.out]; rfl, rfl⟩
    · have e := Lib.hid (inB_false (c := c) (a := a) (b := b) (fun h => h2 h.2))
      go_enter Try.func127, Try.ntmps127
      go_wp2
      go_ret
      exact ⟨by rw [e.out]; rfl, rfl⟩
  · have e := Lib.hid (inB_false (c := c) (a := a) (b := b) (fun h => h1 h.1))
    go_enter Try.func127, Try.ntmps127
    go_wp2
    go_ret
    exact ⟨by rw [e.out]; rfl, rfl⟩

/-- The result is known by name. -/
theorem within_is (c : UInt8) (a b : Nat) (q : Bool) (h : Hid (inB a b c = q)) (w : World) :
    Calls Try.prog 144 #[.int .u8 c.toNat, .int .u8 a, .int .u8 b] w fun e w' => e = .returned (.bool q) ∧ w = w' := by
  have := within_any c a b w
  rwa [h.out] at this
theorem in_is (c : UInt8) (a b : Nat) (q : Bool) (h : Hid (inB a b c = q)) (w : World) :
    Calls Try.prog 127 #[.int .u8 c.toNat, .int .u8 a, .int .u8 b] w fun e w' => e = .returned (.bool q) ∧ w = w' := by
  have := in_any c a b w
  rwa [h.out] at this

theorem lower_any (c : UInt8) (w : World) :
    Calls Try.prog 124 #[.int .u8 c.toNat] w fun e w' => e = .returned (.int .u8 (lowB c).toNat) ∧ w = w' := by
  by_cases h : 65 ≤ c.toNat ∧ c.toNat ≤ 90
  · have e1 := Lib.hid (lowB_up h.1 h.2)
    have h1 := h.1
    have h2 := h.2
    clear h
    go_enter Try.func124, Try.ntmps124
    go_wp2_with fail
    refine (within_is c 65 90 true (Lib.hid (inB_true ⟨h1, h2⟩)) _).mono ?_
    rintro e w' ⟨rfl, rfl⟩
    go_wp2_with fail
    go_ret
    refine ⟨?_, rfl⟩
    rw [e1.out]
    refine congrArg (fun x : Int => Ending.returned (Value.int .u8 x)) ?_
    omega
  · have e1 := Lib.hid (lowB_no h)
    have e2 := Lib.hid (inB_false h)
    clear h
    go_enter Try.func124, Try.ntmps124
    go_wp2_with fail
    refine (within_is c 65 90 false e2 _).mono ?_
    rintro e w' ⟨rfl, rfl⟩
    go_wp2_with fail
    go_ret
    exact ⟨by rw [e1.out]; rfl, rfl⟩

end Go.Proofs.Ytpmmjmnleoicjaa
