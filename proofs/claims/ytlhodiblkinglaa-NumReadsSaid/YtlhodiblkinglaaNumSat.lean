/- The contracts of num's sums and products, and of the document's own: each is the true one, or the greatest. No condition. -/
import Derived.Test.YtlhodiblkinglaaProg
import Derived.Test.YtlhodiblkinglaaNumMath
import Derived.Test.YtlhodiblkinglaaShelf
import Derived.WalkKit
import Derived.Lib.Hide
import Derived.Outline
import Derived.IntWalk
namespace Go.Proofs.Ytlhodiblkinglaa
open Go.RowKit NumMath

theorem ret_int {k : IntKind} {a b : Int} (h : a = b) : Ending.returned (.int k a) = .returned (.int k b) := by rw [h]

set_option maxHeartbeats 400000 in
theorem add64_any (a b : Int) (w : World) (ha0 : 0 ≤ a) (ha : a ≤ 18446744073709551615) (hb0 : 0 ≤ b) (hb : b ≤ 18446744073709551615) :
    Calls Try.prog 13 #[.int .u64 a, .int .u64 b] w fun e w' => e = .returned (.int .u64 (sat64 (a + b))) ∧ w = w' := by
  by_cases h : 18446744073709551615 < a + b
  · have e := sat64_of_lt h
    have H := Lib.hid e; clear e
    go_enter Try.func13, Try.ntmps13
    go_wp2
    go_ret
    exact ⟨ret_int H.out.symm, rfl⟩
  · have e := sat64_of_le (show a + b ≤ _ by omega)
    have H := Lib.hid e; clear e
    go_enter Try.func13, Try.ntmps13
    go_wp2
    go_ret
    exact ⟨ret_int H.out.symm, rfl⟩

set_option maxHeartbeats 400000 in
theorem refadd64_any (a b : Int) (w : World) (ha0 : 0 ≤ a) (ha : a ≤ 18446744073709551615) (hb0 : 0 ≤ b) (hb : b ≤ 18446744073709551615) :
    Calls Try.prog 14 #[.int .u64 a, .int .u64 b] w fun e w' => e = .returned (.int .u64 (sat64 (a + b))) ∧ w = w' := by
  by_cases h : 18446744073709551615 < a + b
  · have e := sat64_of_lt h
    have H := Lib.hid e; clear e
    go_enter Try.func14, Try.ntmps14
    go_wp2
    go_ret
    exact ⟨ret_int H.out.symm, rfl⟩
  · have e := sat64_of_le (show a + b ≤ _ by omega)
    have H := Lib.hid e; clear e
    go_enter Try.func14, Try.ntmps14
    go_wp2
    go_ret
    exact ⟨ret_int H.out.symm, rfl⟩

theorem sat32_of_le {x : Int} (h : x ≤ 4294967295) : sat32 x = x := by
  unfold sat32; rw [if_neg (by omega)]
theorem sat32_of_lt {x : Int} (h : 4294967295 < x) : sat32 x = 4294967295 := by
  unfold sat32; rw [if_pos h]

set_option maxHeartbeats 400000 in
theorem add32_any (a b : Int) (w : World) (ha0 : 0 ≤ a) (ha : a ≤ 4294967295) (hb0 : 0 ≤ b) (hb : b ≤ 4294967295) :
    Calls Try.prog 11 #[.int .u32 a, .int .u32 b] w fun e w' => e = .returned (.int .u32 (sat32 (a + b))) ∧ w = w' := by
  by_cases h : 4294967295 < a + b
  · have e := sat32_of_lt h
    have H := Lib.hid e; clear e
    go_enter Try.func11, Try.ntmps11
    go_wp2
    go_ret
    exact ⟨ret_int H.out.symm, rfl⟩
  · have e := sat32_of_le (show a + b ≤ _ by omega)
    have H := Lib.hid e; clear e
    go_enter Try.func11, Try.ntmps11
    go_wp2
    go_ret
    exact ⟨ret_int H.out.symm, rfl⟩

set_option maxHeartbeats 400000 in
theorem refadd32_any (a b : Int) (w : World) (ha0 : 0 ≤ a) (ha : a ≤ 4294967295) (hb0 : 0 ≤ b) (hb : b ≤ 4294967295) :
    Calls Try.prog 12 #[.int .u32 a, .int .u32 b] w fun e w' => e = .returned (.int .u32 (sat32 (a + b))) ∧ w = w' := by
  by_cases h : 4294967295 < a + b
  · have e := sat32_of_lt h
    have H := Lib.hid e; clear e
    go_enter Try.func12, Try.ntmps12
    go_wp2
    go_ret
    exact ⟨ret_int H.out.symm, rfl⟩
  · have e := sat32_of_le (show a + b ≤ _ by omega)
    have H := Lib.hid e; clear e
    go_enter Try.func12, Try.ntmps12
    go_wp2
    go_ret
    exact ⟨ret_int H.out.symm, rfl⟩

theorem mulN (a b : Nat) : (a : Int) * (b : Int) = ((a * b : Nat) : Int) := (Int.natCast_mul a b).symm

set_option maxHeartbeats 400000 in
theorem mul64_nat (x y : Nat) (w : World) (hx : x < 18446744073709551616) (hy : y < 18446744073709551616) :
    Calls Try.prog 15 #[.int .u64 x, .int .u64 y] w fun e w' => e = .returned (.int .u64 (sat64 ((x : Int) * y))) ∧ w = w' := by
  by_cases h : x * y < 18446744073709551616
  · have e : ((x * y % 18446744073709551616 : Nat) : Int) = sat64 ((x : Int) * y) := by
      rw [sat64_of_le (by rw [mulN]; omega), mulN]; omega
    have e0 : x * y / 18446744073709551616 = 0 := by omega
    have H := Lib.hid e; clear e
    have H0 := Lib.hid e0; clear e0
    go_enter Try.func15, Try.ntmps15
    go_wp2_with (go_at_call 26; refine (Try.bits_Mul64 x y hx hy _).mono ?_; rw [H0.out]; rintro e w' ⟨rfl, rfl⟩)
    go_ret
    exact ⟨ret_int H.out, rfl⟩
  · have e : (18446744073709551615 : Int) = sat64 ((x : Int) * y) := by
      rw [sat64_of_lt (by rw [mulN]; omega)]
    have e0 : ((((x * y / 18446744073709551616 : Nat) : Int) == 0) = false) := by simp; omega
    have e1 : ((((x * y / 18446744073709551616 : Nat) : Int) != 0) = true) := by simp; omega
    have H := Lib.hid e; clear e
    obtain ⟨q, hq⟩ : ∃ q : Nat, q = x * y / 18446744073709551616 := ⟨_, rfl⟩
    rw [← hq] at e0 e1
    have Q := Lib.hid hq; clear hq
    go_enter Try.func15, Try.ntmps15
    go_wp2_with (go_at_call 26; refine (Try.bits_Mul64 x y hx hy _).mono ?_; rw [← Q.out]; rintro e w' ⟨rfl, rfl⟩)
    go_ret
    exact ⟨ret_int H.out, rfl⟩

theorem mul64_any (a b : Int) (w : World) (ha0 : 0 ≤ a) (ha : a ≤ 18446744073709551615) (hb0 : 0 ≤ b) (hb : b ≤ 18446744073709551615) :
    Calls Try.prog 15 #[.int .u64 a, .int .u64 b] w fun e w' => e = .returned (.int .u64 (sat64 (a * b))) ∧ w = w' := by
  obtain ⟨x, rfl⟩ := Int.eq_ofNat_of_zero_le ha0
  obtain ⟨y, rfl⟩ := Int.eq_ofNat_of_zero_le hb0
  exact mul64_nat x y w (by omega) (by omega)

set_option maxHeartbeats 400000 in
theorem refmul64_any (a b : Int) (w : World) (ha0 : 0 ≤ a) (ha : a ≤ 18446744073709551615) (hb0 : 0 ≤ b) (hb : b ≤ 18446744073709551615) :
    Calls Try.prog 16 #[.int .u64 a, .int .u64 b] w fun e w' => e = .returned (.int .u64 (sat64 (a * b))) ∧ w = w' := by
  obtain ⟨r, hr⟩ : ∃ r, r = sat64 (a * b) := ⟨_, rfl⟩
  rw [← hr]
  have R := Lib.hid hr; clear hr
  go_enter Try.func16, Try.ntmps16
  go_wp2
  go_loop [5, 0, 1] (fun o a' b' => ∃ x y z : Int, 0 ≤ x ∧ x ≤ 18446744073709551615 ∧ 0 ≤ y ∧ y ≤ 18446744073709551615 ∧ 0 ≤ z ∧ z ≤ 18446744073709551615 ∧ o = .int .u64 x ∧ a' = .int .u64 y ∧ b' = .int .u64 z ∧ Hid (r = sat64 (x + y * z))) (fun _ _ b' => (intOf b').toNat)
  case atStart => exact ⟨0, a, b, by omega, by omega, ha0, ha, hb0, hb, rfl, rfl, rfl, Lib.hid (by rw [R.out]; simp)⟩
  case round =>
    obtain ⟨x, y, z, hx0, hx, hy0, hy, hz0, hz, rfl, rfl, rfl, hR⟩ := hrel
    by_cases hz1 : 0 < z
    · have hs := sat64_bd (show 0 ≤ x + y by omega)
      have hs2 := sat64_bd (show 0 ≤ y + y by omega)
      by_cases hz2 : 0 < z / 2
      · have hm := round_more x y z hx0 hy0 (by omega)
        rw [← hR.out] at hm
        by_cases hodd : z % 2 = 1
        · have ho : (z % 2 == 1) = true := by simp [hodd]
          rw [if_pos hodd] at hm
          have M := Lib.hid hm
          clear hm hodd hR R
          go_wp2_with fail
          refine (refadd64_any x y _ hx0 hx hy0 hy).mono ?_
          rintro e w' ⟨rfl, rfl⟩
          go_wp2_with fail
          refine (refadd64_any y y _ hy0 hy hy0 hy).mono ?_
          rintro e w' ⟨rfl, rfl⟩
          go_wp2_with fail
          go_round
          case rel => exact ⟨_, _, _, hs.1, hs.2, hs2.1, hs2.2, by omega, by omega, rfl, rfl, rfl, Lib.hid M.out.symm⟩
          case measure => simp [intOf]; omega
        · have ho : (z % 2 == 1) = false := by simp [hodd]
          rw [if_neg hodd] at hm
          have M := Lib.hid hm
          clear hm hodd hR R
          go_wp2_with fail
          refine (refadd64_any y y _ hy0 hy hy0 hy).mono ?_
          rintro e w' ⟨rfl, rfl⟩
          go_wp2_with fail
          go_round
          case rel => exact ⟨_, _, _, hx0, hx, hs2.1, hs2.2, by omega, by omega, rfl, rfl, rfl, Lib.hid M.out.symm⟩
          case measure => simp [intOf]; omega
      · have hm := round_last x y z hz1 (by omega)
        rw [← hR.out] at hm
        have hodd : z % 2 = 1 := by omega
        have ho : (z % 2 == 1) = true := by simp [hodd]
        rw [if_pos hodd] at hm
        have M := Lib.hid hm
        clear hm hodd hR R
        go_wp2_with fail
        refine (refadd64_any x y _ hx0 hx hy0 hy).mono ?_
        rintro e w' ⟨rfl, rfl⟩
        go_wp2_with fail
        have hz3 : z / 2 = 0 := by omega
        go_round
        case rel => exact ⟨_, y, _, hs.1, hs.2, hy0, hy, by omega, by omega, rfl, rfl, rfl, Lib.hid (by rw [hz3, Int.mul_zero, Int.add_zero, M.out, sat64_of_le]; rw [← M.out]; exact hs.2)⟩
        case measure => simp [intOf]; omega
    · have hz3 : z = 0 := by omega
      have E : Hid (x = r) := by
        rw [hR.out, hz3, Int.mul_zero, Int.add_zero, sat64_of_le hx]; exact rfl
      clear hz3 hR R
      go_wp2_with fail
      go_ret
      exact ⟨ret_int E.out, rfl⟩
end Go.Proofs.Ytlhodiblkinglaa
