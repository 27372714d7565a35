/- The contracts of num's Part. For texts of at most 10^6 bytes. -/
import Derived.Test.YtekcipmhljhelaaProg
import Derived.Test.YtekcipmhljhelaaNumHolds
import Derived.Test.YtekcipmhljhelaaClone
import Derived.WalkKit
import Derived.Lib.Hide
import Derived.Outline
import Derived.IntWalk
import Derived.WalkSpells
import Derived.WalkLawsBesides
namespace Go.Proofs.Ytekcipmhljhelaa
open Go.RowKit

theorem part_no (s : ByteArray) (at_ size : Int) (w : World) (hs : s.size ≤ 1000000) (hz1 : -9223372036854775808 ≤ size) (hz : size ≤ 9223372036854775807) (ha1 : -9223372036854775808 ≤ at_) (ha : at_ ≤ 9223372036854775807)
    (h3 : holdsB s.size at_ size = false) :
    Calls Try.prog 31 #[.string s, .int .i64 at_, .int .i64 size] w fun e w' => e = .returned (.tuple #[.string ⟨#[]⟩, .bool false]) ∧ w = w' := by
  have H := Lib.hid h3; clear h3
  go_enter Try.func31, Try.ntmps31
  go_wp2_with fail
  refine (holds_any s at_ size _ (by unfold maxLen; omega) hz1 hz ha1 ha).mono ?_
  rw [H.out]
  rintro e w' ⟨rfl, rfl⟩
  go_wp2_with fail
  go_ret2
  exact ⟨rfl, rfl⟩

theorem part_yes (s : ByteArray) (i n : Nat) (w : World) (hs : s.size ≤ 1000000) (hi : i + n ≤ s.size) :
    Calls Try.prog 31 #[.string s, .int .i64 i, .int .i64 n] w fun e w' => e = .returned (.tuple #[.string (s.extract i (i + n)), .bool true]) ∧ Below w.heap.size w w' := by
  have h3 : holdsB s.size i n = true := by simp [holdsB]; omega
  have H := Lib.hid h3; clear h3
  have h0 : (0 : Int) ≤ i := by omega
  have h1 : (0 : Int) ≤ n := by omega
  have h4 : (i : Int) + n ≤ s.size := by omega
  go_enter Try.func31, Try.ntmps31
  go_wp2_with fail
  refine (holds_any s i n _ (by unfold maxLen; omega) (by omega) (by omega) (by omega) (by omega)).mono ?_
  rw [H.out]
  rintro e w' ⟨rfl, rfl⟩
  go_wp2_with fail
  refine (clone_any _ _ (by simp only [ByteArray.size_extract]; omega)).mono ?_
  rintro e w1 ⟨rfl, hB⟩
  go_wp2_with fail
  go_ret2
  exact ⟨rfl, hB⟩
end Go.Proofs.Ytekcipmhljhelaa
