/- The contract of num's holds: whether a text has so many bytes from a place on. No condition. -/
import Derived.Test.YteddepmiejlemaaProg
import Derived.WalkKit
import Derived.Lib.Hide
import Derived.Outline
import Derived.WalkSpells
import Derived.IntWalk
namespace Go.Proofs.Yteddepmiejlemaa
open Go.RowKit

/-- Has a text of n bytes that many from the place on? -/
def holdsB (n : Nat) (at_ size : Int) : Bool := decide (0 ≤ at_ ∧ 0 ≤ size ∧ at_ + size ≤ n)

set_option maxHeartbeats 400000 in
theorem holds_any (s : ByteArray) (at_ size : Int) (w : World) (hs : s.size ≤ maxLen) (hz1 : -9223372036854775808 ≤ size) (hz : size ≤ 9223372036854775807) (ha1 : -9223372036854775808 ≤ at_) (ha : at_ ≤ 9223372036854775807) :
    Calls Try.prog 28 #[.string s, .int .i64 at_, .int .i64 size] w fun e w' => e = .returned (.bool (holdsB s.size at_ size)) ∧ w = w' := by
  unfold maxLen at hs
  by_cases h1 : 0 ≤ at_
  · by_cases h2 : 0 ≤ size
    · by_cases h3 : size ≤ s.size - at_
      · have e : holdsB s.size at_ size = true := by simp [holdsB]; omega
        have E := Lib.hid e; clear e
        go_enter Try.func28, Try.ntmps28
        go_wp2
        go_ret
        exact ⟨by rw [E.out]; rfl, rfl⟩
      · have e : holdsB s.size at_ size = false := by simp [holdsB]; omega
        have E := Lib.hid e; clear e
        go_enter Try.func28, Try.ntmps28
        go_wp2
        go_ret
        exact ⟨by rw [E.out]; rfl, rfl⟩
    · have e : holdsB s.size at_ size = false := by simp [holdsB]; omega
      have E := Lib.hid e; clear e
      go_enter Try.func28, Try.ntmps28
      go_wp2
      go_ret
      exact ⟨by rw [E.out]; rfl, rfl⟩
  · have e : holdsB s.size at_ size = false := by simp [holdsB]; omega
    have E := Lib.hid e; clear e
    go_enter Try.func28, Try.ntmps28
    go_wp2
    go_ret
    exact ⟨by rw [E.out]; rfl, rfl⟩
end Go.Proofs.Yteddepmiejlemaa
