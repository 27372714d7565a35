/- The contract of the document's Part: what stands at a place of a text. No condition. -/
import Derived.Test.YtaoomjbkfcbfpaaProg
import Derived.Test.YtaoomjbkfcbfpaaNumHolds
import Derived.WalkKit
import Derived.Lib.Hide
import Derived.Laws.Bits64b
import Derived.Outline
import Derived.WalkSpells
import Derived.IntWalk
namespace Go.Proofs.Ytaoomjbkfcbfpaa
open Go.RowKit

theorem refpart_no (s : ByteArray) (at_ size : Int) (w : World) (hs : s.size ≤ maxLen)
    (hno : holdsB s.size at_ size = false) :
    Calls Try.prog 48 #[.string s, .int .i64 at_, .int .i64 size] w fun e w' => e = .returned (.tuple #[.string ⟨#[]⟩, .bool false]) ∧ w = w' := by
  unfold maxLen at hs
  have hn : ¬ (0 ≤ at_ ∧ 0 ≤ size ∧ at_ + size ≤ s.size) := by simpa [holdsB] using hno
  clear hno
  by_cases h1 : at_ < 0
  · clear hn
    go_enter Try.func48, Try.ntmps48
    go_wp2_with fail
    go_ret2
    exact ⟨rfl, rfl⟩
  · by_cases h2 : size < 0
    · clear hn
      go_enter Try.func48, Try.ntmps48
      go_wp2_with fail
      go_ret2
      exact ⟨rfl, rfl⟩
    · by_cases h3 : (s.size : Int) < at_
      · clear hn
        go_enter Try.func48, Try.ntmps48
        go_wp2_with fail
        go_ret2
        exact ⟨rfl, rfl⟩
      · have h4 : s.size - at_ < size := by omega
        clear hn
        go_enter Try.func48, Try.ntmps48
        go_wp2_with fail
        go_ret2
        exact ⟨rfl, rfl⟩

theorem refpart_yes (s : ByteArray) (i n : Nat) (w : World) (hs : s.size ≤ maxLen) (hi : i + n ≤ s.size) :
    Calls Try.prog 48 #[.string s, .int .i64 i, .int .i64 n] w fun e w' => e = .returned (.tuple #[.string (s.extract i (i + n)), .bool true]) ∧ w = w' := by
  unfold maxLen at hs
  have h0 : (0 : Int) ≤ i := by omega
  have h1 : (0 : Int) ≤ n := by omega
  have h2 : (i : Int) ≤ s.size := by omega
  have h3 : (n : Int) ≤ s.size - i := by omega
  have h4 : (i : Int) + n ≤ s.size := by omega
  go_enter Try.func48, Try.ntmps48
  go_wp2_with fail
  go_ret2
  exact ⟨rfl, rfl⟩
end Go.Proofs.Ytaoomjbkfcbfpaa
