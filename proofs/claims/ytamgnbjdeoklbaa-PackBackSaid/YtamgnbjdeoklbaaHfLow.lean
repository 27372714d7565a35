/- Contracts of the small functions of layer 10: bitsOf, ones, the document's Length; the letters as the program's constant text. No condition but on their ranges. -/
import Derived.Test.YtamgnbjdeoklbaaProg
import Derived.Test.YtamgnbjdeoklbaaBytes
import Derived.Test.YtamgnbjdeoklbaaHfTab
import Derived.WalkKit
import Derived.Lib.Hide
import Derived.Outline
import Derived.IntWalk
import Derived.WalkSpells
import Derived.WalkLawsBesides
namespace Go.Proofs.Ytamgnbjdeoklbaa
open Go.RowKit Bytes Hf


set_option maxRecDepth 100000 in
def letters : ByteArray := { data := #[105, 115, 120, 120, 120, 120, 120, 120, 120, 116, 122, 120, 120, 122, 120, 120, 120, 120, 120, 120, 120, 120, 122, 120, 120, 120, 120, 120, 120, 120, 120, 120, 98, 102, 102, 104, 105, 98, 100, 103, 102, 102, 100, 103, 100, 98, 98, 98, 97, 97, 97, 98, 98, 98, 98, 98, 98, 98, 99, 100, 107, 98, 104, 102, 105, 98, 99, 99, 99, 99, 99, 99, 99, 99, 99, 99, 99, 99, 99, 99, 99, 99, 99, 99, 99, 99, 99, 99, 100, 99, 100, 105, 111, 105, 106, 98, 107, 97, 98, 97, 98, 97, 98, 98, 98, 97, 99, 99, 98, 98, 98, 97, 98, 99, 98, 97, 97, 98, 99, 99, 99, 99, 99, 107, 103, 106, 105, 120, 112, 114, 112, 112, 114, 114, 114, 115, 114, 115, 115, 115, 115, 115, 116, 115, 116, 116, 114, 115, 116, 115, 115, 115, 115, 113, 114, 115, 114, 115, 115, 116, 114, 113, 112, 114, 114, 115, 115, 113, 115, 114, 114, 116, 113, 114, 115, 115, 113, 113, 114, 113, 115, 114, 115, 115, 112, 114, 114, 114, 115, 114, 114, 115, 118, 118, 112, 111, 114, 115, 114, 117, 118, 118, 118, 119, 119, 118, 116, 117, 111, 113, 118, 119, 119, 118, 119, 116, 113, 113, 118, 118, 120, 119, 119, 119, 112, 116, 112, 113, 114, 113, 113, 115, 114, 114, 117, 117, 116, 116, 118, 115, 118, 119, 118, 118, 119, 119, 119, 119, 119, 120, 119, 119, 119, 119, 119, 118, 122] }
/-- A sign's letter. -/
def lt (s : Nat) : UInt8 := UInt8.ofNat (len s + 92)
theorem lt_nat {s : Nat} (h : s < 257) : (lt s).toNat = len s + 92 := by
  have := len_bd h
  unfold lt
  rw [UInt8.toNat_ofNat', Nat.mod_eq_of_lt (show len s + 92 < 2 ^ 8 by omega)]
set_option maxRecDepth 100000 in
theorem letters_size : letters.size = 257 := rfl
theorem letters_chk : ((List.range 257).all fun s => letters.data[s]?.getD 0 == lt s) = true := by decide +kernel
theorem letter_in {s : Nat} (hs : s < 257) (h : s < letters.size) : letters[s]'h = lt s := by
  have := eq_of_beq (all_lt letters_chk s hs)
  rw [Array.getElem?_eq_getElem (show s < letters.data.size from h)] at this
  exact this
set_option maxRecDepth 100000 in
theorem letter_at {s : Nat} (hs : s < 257) : ∀ h, ({ data := #[105, 115, 120, 120, 120, 120, 120, 120, 120, 116, 122, 120, 120, 122, 120, 120, 120, 120, 120, 120, 120, 120, 122, 120, 120, 120, 120, 120, 120, 120, 120, 120, 98, 102, 102, 104, 105, 98, 100, 103, 102, 102, 100, 103, 100, 98, 98, 98, 97, 97, 97, 98, 98, 98, 98, 98, 98, 98, 99, 100, 107, 98, 104, 102, 105, 98, 99, 99, 99, 99, 99, 99, 99, 99, 99, 99, 99, 99, 99, 99, 99, 99, 99, 99, 99, 99, 99, 99, 100, 99, 100, 105, 111, 105, 106, 98, 107, 97, 98, 97, 98, 97, 98, 98, 98, 97, 99, 99, 98, 98, 98, 97, 98, 99, 98, 97, 97, 98, 99, 99, 99, 99, 99, 107, 103, 106, 105, 120, 112, 114, 112, 112, 114, 114, 114, 115, 114, 115, 115, 115, 115, 115, 116, 115, 116, 116, 114, 115, 116, 115, 115, 115, 115, 113, 114, 115, 114, 115, 115, 116, 114, 113, 112, 114, 114, 115, 115, 113, 115, 114, 114, 116, 113, 114, 115, 115, 113, 113, 114, 113, 115, 114, 115, 115, 112, 114, 114, 114, 115, 114, 114, 115, 118, 118, 112, 111, 114, 115, 114, 117, 118, 118, 118, 119, 119, 118, 116, 117, 111, 113, 118, 119, 119, 118, 119, 116, 113, 113, 118, 118, 120, 119, 119, 119, 112, 116, 112, 113, 114, 113, 113, 115, 114, 114, 117, 117, 116, 116, 118, 115, 118, 119, 118, 118, 119, 119, 119, 119, 119, 120, 119, 119, 119, 119, 119, 118, 122] } : ByteArray)[s]'h = lt s := fun h => letter_in hs h

/-- What a letter says. -/
theorem bitsOf_is (c : Int) (n : Nat) (w : World) (h : c = n + 92) (h1 : 5 ≤ n) (h2 : n ≤ 30) :
    Calls Try.prog 87 #[.int .i32 c] w fun e w' => e = .returned (.int .i64 (n : Int)) ∧ w = w' := by
  subst h
  have e1 : IntKind.i32.wrap ((n : Int) + 92 - 97) = (n : Int) - 5 := by rw [IntKind.wrap_i32]; omega
  have e2 : IntKind.i64.wrap ((n : Int) - 5) = (n : Int) - 5 := by rw [IntKind.wrap_i64]; omega
  have e3 : IntKind.i64.wrap ((n : Int) - 5 + 5) = (n : Int) := by rw [IntKind.wrap_i64]; omega
  go_enter Try.func87, Try.ntmps87
  go_wp2_with fail
  go_ret
  exact ⟨rfl, rfl⟩
set_option maxRecDepth 100000 in
theorem refLength_is (s : Nat) (w : World) (h : s < 257) :
    Calls Try.prog 81 #[.int .i64 (s : Int)] w fun e w' => e = .returned (.int .i64 (len s : Int)) ∧ w = w' := by
  have hb := len_bd h
  have e0 := letter_at h
  have e1 := lt_nat h
  have e2 : ((len s + 92 : Nat) : Int) = (len s : Int) + 92 := Int.natCast_add _ _
  have e3 : wrap64 ((len s : Int) + 92) = (len s : Int) + 92 := by unfold wrap64; omega
  have e4 : wrap64 ((len s : Int) + 92 - 92) = (len s : Int) := by unfold wrap64; omega
  generalize len s = n at *
  generalize lt s = z at *
  go_enter Try.func81, Try.ntmps81
  go_wp2_with fail
  go_ret
  exact ⟨rfl, rfl⟩
/-- So many bits, all of them 1. -/
theorem ones_is (n : Nat) (w : World) (h : n ≤ 31) :
    Calls Try.prog 89 #[.int .i64 (n : Int)] w fun e w' => e = .returned (.int .u32 ((2 ^ n - 1 : Nat) : Int)) ∧ w = w' := by
  have hn : n = 0 ∨ n = 1 ∨ n = 2 ∨ n = 3 ∨ n = 4 ∨ n = 5 ∨ n = 6 ∨ n = 7 ∨ n = 8 ∨ n = 9 ∨ n = 10 ∨ n = 11 ∨ n = 12 ∨ n = 13 ∨ n = 14 ∨ n = 15 ∨ n = 16 ∨ n = 17 ∨ n = 18 ∨ n = 19 ∨ n = 20 ∨ n = 21 ∨ n = 22 ∨ n = 23 ∨ n = 24 ∨ n = 25 ∨ n = 26 ∨ n = 27 ∨ n = 28 ∨ n = 29 ∨ n = 30 ∨ n = 31 := by omega
  rcases hn with rfl | rfl | rfl | rfl | rfl | rfl | rfl | rfl | rfl | rfl | rfl | rfl | rfl | rfl | rfl | rfl | rfl | rfl | rfl | rfl | rfl | rfl | rfl | rfl | rfl | rfl | rfl | rfl | rfl | rfl | rfl | rfl <;>
  · go_enter Try.func89, Try.ntmps89
    go_wp2_with fail
    go_ret
    exact ⟨rfl, rfl⟩
end Go.Proofs.Ytamgnbjdeoklbaa
