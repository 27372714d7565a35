/- The contracts of the document's Get: what stands at a place of a text, or nothing. For texts of at most 2^63 - 1 bytes. -/
import Derived.Test.YtngbifdenbfepaaProg
import Derived.Test.YtngbifdenbfepaaNumGet
import Derived.WalkKit
import Derived.Lib.Hide
import Derived.Lib.Strings
import Derived.Outline
import Derived.IntWalk
import Derived.WalkSpells
namespace Go.Proofs.Ytngbifdenbfepaa
open Go.RowKit NumMath

theorem refget_no (s : ByteArray) (at_ size : Int) (w : World) (hs : s.size ≤ maxLen)
    (hno : size < 1 ∨ 8 < size ∨ holdsB s.size at_ size = false) :
    Calls Try.prog 19 #[.string s, .int .i64 at_, .int .i64 size] w fun e w' => e = .returned (.tuple #[.int .u64 0, .bool false]) ∧ w = w' := by
  by_cases h1 : size < 1
  · clear hno
    go_enter Try.func19, Try.ntmps19
    go_wp2_with fail
    go_ret2
    exact ⟨rfl, rfl⟩
  · by_cases h2 : 8 < size
    · clear hno
      go_enter Try.func19, Try.ntmps19
      go_wp2_with fail
      go_ret2
      exact ⟨rfl, rfl⟩
    · have h3 : holdsB s.size at_ size = false := by
        rcases hno with h | h | h
        · omega
        · omega
        · exact h
      clear hno
      have H := Lib.hid h3; clear h3
      go_enter Try.func19, Try.ntmps19
      go_wp2_with fail
      refine (refpart_no s at_ size _ hs H.out).mono ?_
      rintro e w' ⟨rfl, rfl⟩
      go_wp2_with fail
      go_ret2
      exact ⟨rfl, rfl⟩

theorem refpart_eq (s t : ByteArray) (i n : Nat) (w : World) (hs : s.size ≤ maxLen) (hi : i + n ≤ s.size) (h : Hid (s.extract i (i + n) = t)) :
    Calls Try.prog 20 #[.string s, .int .i64 i, .int .i64 n] w fun e w' => e = .returned (.tuple #[.string t, .bool true]) ∧ w = w' := by
  have := refpart_yes s i n w hs hi
  rwa [h.out] at this

theorem refget_yes (s : ByteArray) (i n : Nat) (w : World) (hs : s.size ≤ maxLen) (hn1 : 1 ≤ n) (hn : n ≤ 8) (hi : i + n ≤ s.size) :
    Calls Try.prog 19 #[.string s, .int .i64 i, .int .i64 n] w fun e w' => e = .returned (.tuple #[.int .u64 (be ((s.data.toList.drop i).take n) : Nat), .bool true]) ∧ w = w' := by
  obtain ⟨t, ht⟩ : ∃ t, s.extract i (i + n) = t := ⟨_, rfl⟩
  have hsz : t.size = n := by rw [← ht, ByteArray.size_extract]; omega
  have hlist : (t.data.toList.drop 0).take n = (s.data.toList.drop i).take n := by
    rw [← ht, Lib.extract_data, List.drop_zero, Nat.add_sub_cancel_left, List.take_take, Nat.min_self]
  have HT := Lib.hid ht; clear ht
  have HL := Lib.hid hlist; clear hlist
  obtain ⟨x, hx⟩ : ∃ x, x = be ((s.data.toList.drop i).take n) := ⟨_, rfl⟩
  rw [← hx]
  have HX := Lib.hid hx; clear hx
  go_enter Try.func19, Try.ntmps19
  go_wp2_with fail
  refine (refpart_eq s t i n _ hs hi HT).mono ?_
  rintro e w' ⟨rfl, rfl⟩
  go_wp2_with fail
  go_loop [10, 11] (fun r k => ∃ j : Nat, j ≤ n ∧ k = .int .i64 j ∧ r = .int .u64 (be ((t.data.toList.drop 0).take j) : Nat)) (fun _ k => n - (intOf k).toNat)
  case atStart => exact ⟨0, Nat.zero_le _, rfl, rfl⟩
  case round =>
    obtain ⟨j, hj, rfl, rfl⟩ := hrel
    by_cases hlt : j < n
    · have hl : (j : Int) < t.size := by omega
      have hr := mul_round t 0 j (by omega) (by omega)
      have HR := Lib.hid hr; clear hr
      go_wp2_with fail
      go_round
      case rel => exact ⟨j + 1, by omega, by go_num, by rw [← HR.out]; simp⟩
      case measure => simp [intOf]; omega
    · have hjn : j = n := by omega
      subst hjn
      have e : x = be (List.take j t.data.toList) := by rw [HX.out, ← HL.out, List.drop_zero]
      have E := Lib.hid e; clear e
      go_wp2_with fail
      go_ret2
      exact ⟨by rw [E.out]; rfl, rfl⟩
end Go.Proofs.Ytngbifdenbfepaa
