/- The contract of the document's Get where what is asked for is there. No condition. -/
import Derived.Test.YteddepmiejlemaaProg
import Derived.Test.YteddepmiejlemaaNumMath
import Derived.Test.YteddepmiejlemaaNumBe
import Derived.WalkKit
import Derived.Lib.Hide
import Derived.Lib.Strings
import Derived.Laws.Bits64b
import Derived.Outline
import Derived.IntWalk
import Derived.WalkSpells
namespace Go.Proofs.Yteddepmiejlemaa
open Go.RowKit NumMath

theorem snoc_at (s : ByteArray) (i k : Nat) (h : i + k < s.size) : (s.data.toList.drop i).take (k + 1) = (s.data.toList.drop i).take k ++ [s[i + k]] := by
  rw [List.take_succ_eq_append_getElem (by simp; have : s.data.size = s.size := rfl; omega)]; simp; rfl

theorem be_few_at (l : List UInt8) (j : Nat) (hj : j < 8) : be (l.take j) < 72057594037927936 := by
  have h1 := be_lt (l.take j)
  have h2 : (l.take j).length ≤ 7 := by rw [List.length_take]; omega
  have h3 : 256 ^ (l.take j).length ≤ 256 ^ 7 := Nat.pow_le_pow_right (by omega) h2
  omega
theorem mul_at (s : ByteArray) (i j : Nat) (h : i + j < s.size) (hj : j < 8) :
    IntKind.u64.wrap (IntKind.u64.wrap (↑(be (List.take j (List.drop i s.data.toList))) * 256) + IntKind.u64.wrap ↑(s[i + j]'h).toNat) = ((be (List.take (j + 1) (List.drop i s.data.toList)) : Nat) : Int) := by
  have hc := (s[i + j]'h).toNat_lt
  have hb := be_few_at (s.data.toList.drop i) j hj
  rw [snoc_at s i j h, be_snoc, IntKind.wrap_u64, IntKind.wrap_u64, IntKind.wrap_u64]
  omega
theorem rpart_at (s t : ByteArray) (i n : Nat) (w : World) (hs : s.size ≤ maxLen) (hi : i + n ≤ s.size) (h : Hid (s.extract i (i + n) = t)) :
    Calls Try.prog 29 #[.string s, .int .i64 i, .int .i64 n] w fun e w' => e = .returned (.tuple #[.string t, .bool true]) ∧ w = w' := by
  rw [← h.out]
  unfold maxLen at hs
  have h0 : (0 : Int) ≤ i := by omega
  have h1 : (0 : Int) ≤ n := by omega
  have h2 : (i : Int) ≤ s.size := by omega
  have h3 : (n : Int) ≤ s.size - i := by omega
  have h4 : (i : Int) + n ≤ s.size := by omega
  clear h
  go_enter Try.func29, Try.ntmps29
  go_wp2_with fail
  go_ret2
  exact ⟨rfl, rfl⟩
theorem rget_at (s : ByteArray) (i n : Nat) (w : World) (hs : s.size ≤ maxLen) (hn1 : 1 ≤ n) (hn : n ≤ 8) (hi : i + n ≤ s.size) :
    Calls Try.prog 22 #[.string s, .int .i64 i, .int .i64 n] w fun e w' => e = .returned (.tuple #[.int .u64 (be ((s.data.toList.drop i).take n) : Nat), .bool true]) ∧ w = w' := by
  obtain ⟨t, ht⟩ : ∃ t, s.extract i (i + n) = t := ⟨_, rfl⟩
  have hsz : t.size = n := by rw [← ht, ByteArray.size_extract]; omega
  have hlist : (t.data.toList.drop 0).take n = (s.data.toList.drop i).take n := by
    rw [← ht, Lib.extract_data, List.drop_zero, Nat.add_sub_cancel_left, List.take_take, Nat.min_self]
  have HT := Lib.hid ht; clear ht
  have HL := Lib.hid hlist; clear hlist
  obtain ⟨x, hx⟩ : ∃ x, x = be ((s.data.toList.drop i).take n) := ⟨_, rfl⟩
  rw [← hx]
  have HX := Lib.hid hx; clear hx
  go_enter Try.func22, Try.ntmps22
  go_wp2_with fail
  refine (rpart_at s t i n _ hs hi HT).mono ?_
  rintro e w' ⟨rfl, rfl⟩
  go_wp2_with fail
  go_loop [10, 11] (fun r k => ∃ j : Nat, j ≤ n ∧ k = .int .i64 j ∧ r = .int .u64 (be ((t.data.toList.drop 0).take j) : Nat)) (fun _ k => n - (intOf k).toNat)
  case atStart => exact ⟨0, Nat.zero_le _, rfl, rfl⟩
  case round =>
    obtain ⟨j, hj, rfl, rfl⟩ := hrel
    by_cases hlt : j < n
    · have hl : (j : Int) < t.size := by omega
      have hr := mul_at t 0 j (by omega) (by omega)
      have HR := Lib.hid hr; clear hr
      go_wp2_with fail
      go_round
      case rel => exact ⟨j + 1, by omega, by go_num, by rw [← HR.out]; simp⟩
      case measure => simp [intOf]; omega
    · have hjn : j = n := by omega
      subst hjn
      have e : x = be (List.take j t.data.toList) := by rw [HX.out, ← HL.out, List.drop_zero]
      have E := Lib.hid e; clear e
      go_wp2_with fail
      go_ret2
      exact ⟨by rw [E.out]; rfl, rfl⟩
end Go.Proofs.Yteddepmiejlemaa
