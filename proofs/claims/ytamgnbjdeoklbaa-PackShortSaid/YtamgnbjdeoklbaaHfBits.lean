/- Bits of sums, bytes of bits: mathematics of layer 10's Encode. No program. -/
import Derived.Test.YtamgnbjdeoklbaaHfMath
namespace Go.Proofs.Ytamgnbjdeoklbaa.Hf

theorem bits_mod (m : Nat) (k : Nat) : ∀ j, j ≤ k → bits (m % 2 ^ k) j = bits m j
  | 0, _ => rfl
  | j + 1, h => by
    rw [bits, bits, bits_mod m k j (by omega)]
    have e : m % 2 ^ k / 2 ^ j % 2 = m / 2 ^ j % 2 := by
      rw [show k = j + (k - j - 1 + 1) by omega, Nat.pow_add, Nat.mod_mul_right_div_self, Nat.pow_succ, Nat.mod_mul_left_mod]
    rw [e]
/-- A number with a code behind it. -/
theorem bits_cat (a c n : Nat) (hc : c < 2 ^ n) : ∀ h, bits (a * 2 ^ n + c) (h + n) = bits a h ++ bits c n
  | 0 => by
    rw [Nat.zero_add, ← bits_mod (a * 2 ^ n + c) n n (Nat.le_refl _), Nat.add_comm, Nat.add_mul_mod_self_right, Nat.mod_eq_of_lt hc]
    rfl
  | h + 1 => by
    have hp : 0 < 2 ^ n := Nat.pow_pos (by decide)
    have e : (a * 2 ^ n + c) / 2 ^ (h + n) = a / 2 ^ h := by
      rw [Nat.add_comm h n, Nat.pow_add, ← Nat.div_div_eq_div_mul, Nat.mul_comm a, Nat.mul_add_div hp, Nat.div_eq_of_lt hc, Nat.add_zero]
    rw [show h + 1 + n = h + n + 1 by omega, bits, bits_cat a c n hc h, e]
    rfl
/-- What is held behind one more code. -/
theorem held_bits {H c n h M : Nat} (hc : c < 2 ^ n) (hn : n + h ≤ 64) (hM : M = 18446744073709551616) : bits (H * 2 ^ n % M ||| c) (h + n) = bits H h ++ bits c n := by
  have e : H * 2 ^ n % M = H % 2 ^ (64 - n) * 2 ^ n := by
    rw [hM, show 18446744073709551616 = 2 ^ (64 - n) * 2 ^ n by rw [← Nat.pow_add, show 64 - n + n = 64 by omega], Nat.mul_mod_mul_right]
  have e2 : H % 2 ^ (64 - n) * 2 ^ n ||| c = H % 2 ^ (64 - n) * 2 ^ n + c := by
    rw [Nat.mul_comm, ← Nat.two_pow_add_eq_or_of_lt hc]
  rw [e, e2, bits_cat _ _ _ hc, bits_mod H (64 - n) h (by omega)]
theorem pack_bits (H c : Nat) (B : List Bool) : ∀ n x h, h + n ≤ 7 → pack x h (bits H (n + c) ++ B) = pack (x * 2 ^ n + H / 2 ^ c % 2 ^ n) (h + n) (bits H c ++ B)
  | 0, x, h, _ => by rw [Nat.zero_add, Nat.pow_zero, Nat.mul_one, Nat.mod_one, Nat.add_zero, Nat.add_zero]
  | n + 1, x, h, hn => by
    have eb : bn (H / 2 ^ (n + c) % 2 == 1) = H / 2 ^ (n + c) % 2 := by
      rcases Nat.mod_two_eq_zero_or_one (H / 2 ^ (n + c)) with e | e <;> rw [e] <;> rfl
    have em : H / 2 ^ c % 2 ^ (n + 1) = H / 2 ^ (n + c) % 2 * 2 ^ n + H / 2 ^ c % 2 ^ n := by
      rw [Nat.mod_pow_succ, Nat.div_div_eq_div_mul, ← Nat.pow_add, Nat.add_comm c n, Nat.mul_comm (2 ^ n), Nat.add_comm]
    rw [show n + 1 + c = n + c + 1 by omega, bits, List.cons_append, pack, if_neg (by omega), pack_bits H c B n _ _ (by omega), eb, em, show h + 1 + n = h + (n + 1) by omega, Nat.pow_succ]
    congr 1
    rw [Nat.add_mul, ← Nat.add_assoc, Nat.mul_comm 2 x, Nat.mul_assoc, Nat.mul_comm 2 (2 ^ n)]
/-- The first byte of what is held. -/
theorem pack_byte (H c : Nat) (B : List Bool) : pack 0 0 (bits H (8 + c) ++ B) = UInt8.ofNat (H / 2 ^ c % 256) :: pack 0 0 (bits H c ++ B) := by
  have eb : bn (H / 2 ^ c % 2 == 1) = H / 2 ^ c % 2 := by
    rcases Nat.mod_two_eq_zero_or_one (H / 2 ^ c) with e | e <;> rw [e] <;> rfl
  have em : H / 2 ^ (c + 1) % 128 * 2 + H / 2 ^ c % 2 = H / 2 ^ c % 256 := by
    rw [Nat.pow_succ, ← Nat.div_div_eq_div_mul]
    omega
  rw [show 8 + c = 7 + (c + 1) by omega, pack_bits H (c + 1) B 7 0 0 (by omega), bits, List.cons_append, pack, if_pos rfl, eb]
  congr 2
  rw [Nat.zero_mul, Nat.zero_add, show (2 : Nat) ^ 7 = 128 by rfl]
  omega
/-- The last byte, filled up. -/
theorem pack_rest (H c : Nat) (h1 : 1 ≤ c) (h7 : c ≤ 7) : pack 0 0 (bits H c ++ []) = [UInt8.ofNat (H % 2 ^ c * 2 ^ (8 - c) + (2 ^ (8 - c) - 1))] := by
  have h := pack_bits H 0 [] c 0 0 (by omega)
  rw [Nat.add_zero] at h
  rw [h, Nat.zero_mul, Nat.zero_add, Nat.zero_add, Nat.pow_zero, Nat.div_one, show bits H 0 ++ [] = [] from rfl, pack, if_neg (by omega)]
theorem pack_over (H : Nat) (B : List Bool) : pack 0 0 (bits H 0 ++ B) = pack 0 0 B := rfl
end Go.Proofs.Ytamgnbjdeoklbaa.Hf
