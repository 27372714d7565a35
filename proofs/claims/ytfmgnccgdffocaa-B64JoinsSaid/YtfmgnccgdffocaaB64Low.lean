/- The contracts of b64's low, and of the document's sign and number. No condition. -/
import Derived.Test.YtfmgnccgdffocaaProg
import Derived.Test.YtfmgnccgdffocaaBytes
import Derived.Test.YtfmgnccgdffocaaB64Math
import Derived.WalkKit
import Derived.Lib.Hide
import Derived.Outline
import Derived.IntWalk
import Derived.WalkSpells
namespace Go.Proofs.Ytfmgnccgdffocaa
open Go.RowKit Bytes B64

theorem ofInt32_nat {a : Nat} (ha : a < 4294967296) : (BitVec.ofInt 32 (a : Int)).toNat = a := by
  rw [BitVec.ofInt_natCast, BitVec.toNat_ofNat]
  omega
theorem and32 {a b : Nat} (ha : a < 4294967296) (hb : b < 4294967296) : bits .and .u32 (a : Int) (b : Int) = ((a &&& b : Nat) : Int) := by
  have hx : a &&& b ≤ a := Nat.and_le_left
  show IntKind.u32.wrap ((BitVec.ofInt 32 (a : Int) &&& BitVec.ofInt 32 (b : Int)).toNat : Int) = _
  rw [BitVec.toNat_and, ofInt32_nat ha, ofInt32_nat hb, IntKind.wrap_u32]
  omega
theorem or32 {a b : Nat} (ha : a < 4294967296) (hb : b < 4294967296) : bits .or .u32 (a : Int) (b : Int) = ((a ||| b : Nat) : Int) := by
  have hx : a ||| b < 2 ^ 32 := Nat.or_lt_two_pow (by omega) (by omega)
  show IntKind.u32.wrap ((BitVec.ofInt 32 (a : Int) ||| BitVec.ofInt 32 (b : Int)).toNat : Int) = _
  rw [BitVec.toNat_or, ofInt32_nat ha, ofInt32_nat hb, IntKind.wrap_u32]
  omega
/-- The lowest bits. -/
theorem and_low (n b m : Nat) (hn : n < 4294967296) (hb : b < 32) (hm : m = 2 ^ b - 1) : bits .and .u32 (n : Int) (m : Int) = ((n % 2 ^ b : Nat) : Int) := by
  have h2 : 2 ^ b ≤ 2 ^ 31 := Nat.pow_le_pow_right (by omega) (by omega)
  subst hm
  rw [and32 hn (by omega), Nat.and_two_pow_sub_one_eq_mod]
theorem or_in (n x : Nat) (b : Nat) (hx : x < 2 ^ b) (hb : b ≤ 16) : bits .or .u32 (IntKind.u32.wrap ((n : Int) * (2 ^ b : Nat))) (x : Int) = (((n * 2 ^ b + x) % 4294967296 : Nat) : Int) := by
  obtain ⟨p, hp⟩ : ∃ p, p = 2 ^ b := ⟨_, rfl⟩
  obtain ⟨q, hq⟩ : ∃ q, q = 2 ^ (32 - b) := ⟨_, rfl⟩
  have hpq : p * q = 4294967296 := by rw [hp, hq, ← Nat.pow_add, show b + (32 - b) = 32 by omega]
  have hp0 : 0 < p := by rw [hp]; exact Nat.pow_pos (by decide)
  have hq0 : 0 < q := by rw [hq]; exact Nat.pow_pos (by decide)
  have hq1 : p ≤ 65536 := by rw [hp]; exact Nat.pow_le_pow_right (n := 2) (by omega) hb
  have e : IntKind.u32.wrap ((n : Int) * (2 ^ b : Nat)) = ((n % q * p : Nat) : Int) := by
    rw [IntKind.wrap_u32, ← hp]
    have h1 : n * p % 4294967296 = n % q * p := by rw [← hpq, Nat.mul_comm p q, Nat.mul_mod_mul_right]
    rw [← h1]
    omega
  rw [← hp] at hx
  have hl : n % q * p + x < 4294967296 := by
    have h1 : n % q + 1 ≤ q := Nat.mod_lt _ hq0
    have h2 := Nat.mul_le_mul_right p h1
    rw [Nat.mul_comm q p, hpq, Nat.add_mul] at h2
    omega
  rw [e, or32 (by omega) (by omega)]
  have h := Nat.shiftLeft_add_eq_or_of_lt (i := b) (b := x) (by rw [← hp]; exact hx) (n % q)
  rw [Nat.shiftLeft_eq, ← hp] at h
  rw [← h, ← hp]
  have h3 : (n * p + x) % 4294967296 = n % q * p + x := by
    have h4 : n * p = n % q * p + 4294967296 * (n / q) := by
      have h5 := Nat.mod_add_div n q
      calc n * p = (n % q + q * (n / q)) * p := by rw [h5]
        _ = n % q * p + p * q * (n / q) := by rw [Nat.add_mul]; congr 1; rw [Nat.mul_comm p q, Nat.mul_right_comm]
        _ = _ := by rw [hpq]
    rw [h4]
    omega
  rw [h3]

theorem low_is (b n m : Nat) (w : World) (hb : b = 0 ∨ b = 2 ∨ b = 4 ∨ b = 6) (hn : n < 4294967296) (hm : Hid (n % 2 ^ b = m)) : Calls Try.prog 12 #[.int .u32 n, .int .i64 b] w fun e w' => e = .returned (.int .u32 m) ∧ w = w' := by
  rcases hb with rfl | rfl | rfl | rfl
  · have hE : bits .and .u32 (n : Int) 0 = m := by rw [← hm.out]; exact and_low n 0 0 hn (by omega) rfl
    clear hm
    go_enter Try.func12, Try.ntmps12
    go_wp2
    go_ret
    exact ⟨rfl, rfl⟩
  · have hE : bits .and .u32 (n : Int) 3 = m := by rw [← hm.out]; exact and_low n 2 3 hn (by omega) rfl
    clear hm
    go_enter Try.func12, Try.ntmps12
    go_wp2
    go_ret
    exact ⟨rfl, rfl⟩
  · have hE : bits .and .u32 (n : Int) 15 = m := by rw [← hm.out]; exact and_low n 4 15 hn (by omega) rfl
    clear hm
    go_enter Try.func12, Try.ntmps12
    go_wp2
    go_ret
    exact ⟨rfl, rfl⟩
  · have hE : bits .and .u32 (n : Int) 63 = m := by rw [← hm.out]; exact and_low n 6 63 hn (by omega) rfl
    clear hm
    go_enter Try.func12, Try.ntmps12
    go_wp2
    go_ret
    exact ⟨rfl, rfl⟩

theorem sg_num {n : Nat} (h : n < 64) : (sg n).toNat = if n < 26 then 65 + n else if n < 52 then 97 + n - 26 else if n < 62 then 48 + n - 52 else if n = 62 then 45 else 95 := by
  have := List.all_eq_true.1 (show ((List.range 64).all fun n => (sg n).toNat == if n < 26 then 65 + n else if n < 52 then 97 + n - 26 else if n < 62 then 48 + n - 52 else if n = 62 then 45 else 95) = true by decide +kernel) n (List.mem_range.2 h)
  exact eq_of_beq this
theorem sign_any (n : Nat) (w : World) (h : n < 64) : Calls Try.prog 13 #[.int .i64 n] w fun e w' => e = .returned (.int .u8 (sg n).toNat) ∧ w = w' := by
  have e := sg_num h
  generalize (sg n).toNat = s at *
  by_cases h1 : n < 26
  · rw [if_pos h1] at e
    have E := Lib.hid e; clear e
    go_enter Try.func13, Try.ntmps13
    go_wp2
    go_ret
    exact ⟨congrArg (fun x : Int => Ending.returned (Value.int .u8 x)) (by rw [E.out]; omega), rfl⟩
  rw [if_neg h1] at e
  by_cases h2 : n < 52
  · rw [if_pos h2] at e
    have E := Lib.hid e; clear e
    go_enter Try.func13, Try.ntmps13
    go_wp2
    go_ret
    exact ⟨congrArg (fun x : Int => Ending.returned (Value.int .u8 x)) (by rw [E.out]; omega), rfl⟩
  rw [if_neg h2] at e
  by_cases h3 : n < 62
  · rw [if_pos h3] at e
    have E := Lib.hid e; clear e
    go_enter Try.func13, Try.ntmps13
    go_wp2
    go_ret
    exact ⟨congrArg (fun x : Int => Ending.returned (Value.int .u8 x)) (by rw [E.out]; omega), rfl⟩
  rw [if_neg h3] at e
  by_cases h4 : n = 62
  · rw [if_pos h4] at e
    have E := Lib.hid e; clear e
    subst h4
    go_enter Try.func13, Try.ntmps13
    go_wp2
    go_ret
    exact ⟨congrArg (fun x : Int => Ending.returned (Value.int .u8 x)) (by rw [E.out]; rfl), rfl⟩
  · rw [if_neg h4] at e
    have E := Lib.hid e; clear e
    obtain rfl : n = 63 := by omega
    go_enter Try.func13, Try.ntmps13
    go_wp2
    go_ret
    exact ⟨congrArg (fun x : Int => Ending.returned (Value.int .u8 x)) (by rw [E.out]; rfl), rfl⟩

theorem number_any (c : UInt8) (w : World) : Calls Try.prog 15 #[.int .u8 c.toNat] w fun e w' => e = .returned (.int .i64 (num c)) ∧ w = w' := by
  obtain ⟨r, hr⟩ : ∃ r, r = num c := ⟨_, rfl⟩
  rw [← hr]
  have R := Lib.hid hr; clear hr
  go_enter Try.func15, Try.ntmps15
  go_wp2_with fail
  go_loop [3] (fun i => ∃ k : Nat, k ≤ 64 ∧ i = .int .i64 k ∧ Hid (∀ j, j < k → sg j ≠ c)) (fun i => 64 - (intOf i).toNat)
  case atStart => exact ⟨0, by omega, rfl, Lib.hid (fun j hj => absurd hj (Nat.not_lt_zero _))⟩
  case round =>
    obtain ⟨k, hk, rfl, hn⟩ := hrel
    by_cases hlt : k < 64
    · by_cases he : sg k = c
      · have f0 : (((sg k).toNat : Int) == c.toNat) = true := beq_iff_eq.2 (by rw [he])
        have hr : r = k := by rw [R.out, ← he, num_sg hlt]
        subst hr
        go_wp2_with fail
        refine (sign_any k _ hlt).mono ?_
        rintro e w' ⟨rfl, rfl⟩
        go_wp2_with fail
        go_ret
        exact ⟨rfl, rfl⟩
      · have f0 : (((sg k).toNat : Int) == c.toNat) = false := beq_eq_false_iff_ne.2 (fun e => he (UInt8.toNat_inj.1 (by omega)))
        have hn' : Hid (∀ j, j < k + 1 → sg j ≠ c) := by
          intro j hj
          rcases Nat.lt_or_ge j k with h | h
          · exact hn.out j h
          · have e : j = k := by omega
            subst e
            exact he
        clear he
        go_wp2_with fail
        refine (sign_any k _ hlt).mono ?_
        rintro e w' ⟨rfl, rfl⟩
        go_wp2_with fail
        go_round
        case rel => exact ⟨k + 1, by omega, by go_num, hn'⟩
        case measure => simp [intOf]; omega
    · have hr : r = -1 := by
        have h1 := num_ge c
        rw [R.out]
        by_cases h0 : 0 ≤ num c
        · have h2 := num_yes h0
          exact absurd h2.2 (hn.out _ (by omega))
        · omega
      subst hr
      go_wp2_with fail
      go_ret
      exact ⟨rfl, rfl⟩
end Go.Proofs.Ytfmgnccgdffocaa
