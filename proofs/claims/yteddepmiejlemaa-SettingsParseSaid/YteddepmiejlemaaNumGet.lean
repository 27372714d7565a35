/- The contracts of num's holds and Get, and of the document's Part and Get: what stands at a place of a text, big-endian. No condition. -/
import Derived.Test.YteddepmiejlemaaProg
import Derived.Test.YteddepmiejlemaaNumMath
import Derived.Test.YteddepmiejlemaaNumBe
import Derived.Test.YteddepmiejlemaaNumHolds
import Derived.WalkKit
import Derived.Lib.Hide
import Derived.Laws.Bits64b
import Derived.Outline
import Derived.WalkSpells
import Derived.IntWalk
namespace Go.Proofs.Yteddepmiejlemaa
open Go.RowKit NumMath

theorem be_or (x c : Nat) (hx : x < 72057594037927936) (hc : c < 256) : bits .or .u64 (IntKind.u64.wrap ((x : Int) * 256)) (c : Int) = ((x * 256 + c : Nat) : Int) := by
  have e : IntKind.u64.wrap ((x : Int) * 256) = ((x * 256 : Nat) : Int) := by rw [IntKind.wrap_u64]; omega
  rw [e, bits_or_u64_nat _ _ (by omega) (by omega)]
  have h := Nat.shiftLeft_add_eq_or_of_lt (i := 8) (b := c) (by omega) x
  rw [Nat.shiftLeft_eq] at h
  rw [← h]

theorem get_no (s : ByteArray) (at_ size : Int) (w : World) (hs : s.size ≤ maxLen) (hz1 : -9223372036854775808 ≤ size) (hz : size ≤ 9223372036854775807) (ha1 : -9223372036854775808 ≤ at_) (ha : at_ ≤ 9223372036854775807)
    (hno : size < 1 ∨ 8 < size ∨ holdsB s.size at_ size = false) :
    Calls Try.prog 21 #[.string s, .int .i64 at_, .int .i64 size] w fun e w' => e = .returned (.tuple #[.int .u64 0, .bool false]) ∧ w = w' := by
  by_cases h1 : size < 1
  · clear hno
    go_enter Try.func21, Try.ntmps21
    go_wp2_with fail
    go_ret2
    exact ⟨rfl, rfl⟩
  · by_cases h2 : 8 < size
    · clear hno
      go_enter Try.func21, Try.ntmps21
      go_wp2_with fail
      go_ret2
      exact ⟨rfl, rfl⟩
    · have h3 : holdsB s.size at_ size = false := by
        rcases hno with h | h | h
        · omega
        · omega
        · exact h
      clear hno
      have H := Lib.hid h3; clear h3
      go_enter Try.func21, Try.ntmps21
      go_wp2_with fail
      refine (holds_any s at_ size _ hs hz1 hz ha1 ha).mono ?_
      rw [H.out]
      rintro e w' ⟨rfl, rfl⟩
      go_wp2_with fail
      go_ret2
      exact ⟨rfl, rfl⟩

theorem take_snoc (s : ByteArray) (i k : Nat) (h : i + k < s.size) : (s.data.toList.drop i).take (k + 1) = (s.data.toList.drop i).take k ++ [s[i + k]] := by
  rw [List.take_succ_eq_append_getElem (by simp; have : s.data.size = s.size := rfl; omega)]; simp; rfl

theorem be_take_lt (l : List UInt8) (j : Nat) (hj : j < 8) : be (l.take j) < 72057594037927936 := by
  have h1 := be_lt (l.take j)
  have h2 : (l.take j).length ≤ 7 := by rw [List.length_take]; omega
  have h3 : 256 ^ (l.take j).length ≤ 256 ^ 7 := Nat.pow_le_pow_right (by omega) h2
  omega
theorem get_round (s : ByteArray) (i j : Nat) (h : i + j < s.size) (hj : j < 8) :
    bits BinOp.or IntKind.u64 (IntKind.u64.wrap (↑(be (List.take j (List.drop i s.data.toList))) * 256)) (IntKind.u64.wrap ↑(s[i + j]'h).toNat) = ((be (List.take (j + 1) (List.drop i s.data.toList)) : Nat) : Int) := by
  have hc := (s[i + j]'h).toNat_lt
  have e : IntKind.u64.wrap ((s[i + j]'h).toNat : Int) = ((s[i + j]'h).toNat : Int) := by rw [IntKind.wrap_u64]; omega
  rw [e, be_or _ _ (be_take_lt _ _ hj) (by omega), take_snoc s i j h, be_snoc]
theorem mul_round (s : ByteArray) (i j : Nat) (h : i + j < s.size) (hj : j < 8) :
    IntKind.u64.wrap (IntKind.u64.wrap (↑(be (List.take j (List.drop i s.data.toList))) * 256) + IntKind.u64.wrap ↑(s[i + j]'h).toNat) = ((be (List.take (j + 1) (List.drop i s.data.toList)) : Nat) : Int) := by
  have hc := (s[i + j]'h).toNat_lt
  have hb := be_take_lt (s.data.toList.drop i) j hj
  rw [take_snoc s i j h, be_snoc, IntKind.wrap_u64, IntKind.wrap_u64, IntKind.wrap_u64]
  omega

theorem get_yes (s : ByteArray) (i n : Nat) (w : World) (hs : s.size ≤ maxLen) (hn1 : 1 ≤ n) (hn : n ≤ 8) (hi : i + n ≤ s.size) :
    Calls Try.prog 21 #[.string s, .int .i64 i, .int .i64 n] w fun e w' => e = .returned (.tuple #[.int .u64 (be ((s.data.toList.drop i).take n) : Nat), .bool true]) ∧ w = w' := by
  unfold maxLen at hs
  have h3 : holdsB s.size i n = true := by simp [holdsB]; omega
  have H := Lib.hid h3; clear h3
  go_enter Try.func21, Try.ntmps21
  go_wp2_with fail
  refine (holds_any s i n _ (by unfold maxLen; omega) (by omega) (by omega) (by omega) (by omega)).mono ?_
  rw [H.out]
  rintro e w' ⟨rfl, rfl⟩
  go_wp2_with fail
  go_loop [8, 24, 9] (fun r k _ => ∃ j : Nat, j ≤ n ∧ k = .int .i64 j ∧ r = .int .u64 (be ((s.data.toList.drop i).take j) : Nat)) (fun _ k _ => n - (intOf k).toNat)
  case atStart => exact ⟨0, Nat.zero_le _, rfl, rfl⟩
  case round =>
    obtain ⟨j, hj, rfl, rfl⟩ := hrel
    by_cases hlt : j < n
    · have hl : (i : Int) + j < s.size := by omega
      go_wp2_with fail
      go_round
      case rel => exact ⟨j + 1, by omega, by go_num, by rw [get_round s i j (by omega) (by omega)]⟩
      case measure => simp [intOf]; omega
    · go_wp2_with fail
      have : j = n := by omega
      subst this
      go_ret2
      exact ⟨rfl, rfl⟩
end Go.Proofs.Yteddepmiejlemaa
