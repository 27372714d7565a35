/- The contract of the document's Bits: a number as letters 0 and 1. For at most 64 of them. -/
import Derived.Test.YtfnfgjpeefagpaaProg
import Derived.Test.YtfnfgjpeefagpaaBytes
import Derived.Test.YtfnfgjpeefagpaaHfMath
import Derived.Test.YtfnfgjpeefagpaaHfLow
import Derived.WalkKit
import Derived.Lib.Hide
import Derived.Outline
import Derived.IntWalk
import Derived.WalkSpells
import Derived.WalkLawsBesides
namespace Go.Proofs.Ytfnfgjpeefagpaa
open Go.RowKit Bytes Hf

namespace Hf
/-- Bits as letters. -/
def bitL (l : List Bool) : List UInt8 := l.map fun b => if b then 49 else 48
theorem bitL_cat (a b : List Bool) : bitL (a ++ b) = bitL a ++ bitL b := List.map_append ..
theorem bitL_len (l : List Bool) : (bitL l).length = l.length := List.length_map ..
theorem bits_low (m k : Nat) : bits (m / 2 ^ k) 1 = [m / 2 ^ k % 2 == 1] := by
  show [m / 2 ^ k / 2 ^ 0 % 2 == 1] = _
  rw [Nat.pow_zero, Nat.div_one]
/-- The letter of one bit. -/
theorem bit_letter (q : Nat) : (UInt8.ofNat (48 + q % 2)) = if (q % 2 == 1) then 49 else 48 := by
  rcases Nat.mod_two_eq_zero_or_one q with h | h <;> rw [h] <;> rfl
theorem bitL_step (m k : Nat) : bitL (bits m (k + 1)) = UInt8.ofNat (48 + m / 2 ^ k % 2) :: bitL (bits m k) := by
  rw [bit_letter]
  rfl
end Hf

set_option maxHeartbeats 4000000 in
set_option maxRecDepth 100000 in
theorem bits_is (m n : Nat) (w : World) (hm : m < 18446744073709551616) (hn : n ≤ 64) :
    Calls Try.prog 20 #[.int .u64 (m : Int), .int .i64 (n : Int)] w fun e w' => e = .returned (.string (mk (bitL (Hf.bits m n)))) ∧ Below w.heap.size w w' := by
  obtain ⟨r, hr⟩ : ∃ r, mk (bitL (Hf.bits m n)) = r := ⟨_, rfl⟩
  rw [hr]
  have R := Lib.hid hr; clear hr
  go_enter Try.func20, Try.ntmps20
  go_wp2_with fail
  go_loopw [0, 5, 6] (fun a b i wr => ∃ (k q : Nat) (t : ByteArray), k ≤ n ∧ a = .int .u64 (q : Int) ∧ b = .string t ∧ i = .int .i64 (k : Int) ∧ t.size = k ∧ Hid (q = m / 2 ^ k) ∧ Hid (t = mk (bitL (Hf.bits m k))) ∧ Below w.heap.size w wr) (fun _ _ i _ => n - (intOf i).toNat)
  case atStart => exact ⟨0, m, mk [], Nat.zero_le _, rfl, rfl, rfl, rfl, Lib.hid (by rw [Nat.pow_zero, Nat.div_one]), Lib.hid rfl, Below.refl _ _⟩
  case round =>
    obtain ⟨k, q, t, hk, rfl, rfl, rfl, ht, hq, hT, hB⟩ := hrel
    by_cases hlt : k < n
    · have hqb : q < 18446744073709551616 := by rw [hq.out]; exact Nat.lt_of_le_of_lt (Nat.div_le_self _ _) hm
      have e1 : IntKind.u64.wrap (48 + (q : Int) % 2) = 48 + (q : Int) % 2 := by rw [IntKind.wrap_u64]; omega
      have e2 : IntKind.u8.wrap (48 + (q : Int) % 2) = 48 + (q : Int) % 2 := by rw [IntKind.wrap_u8]; omega
      have hz : ((UInt8.ofNat (48 + q % 2)).toNat : Int) = 48 + (q : Int) % 2 := by rw [UInt8.toNat_ofNat', Nat.mod_eq_of_lt (by omega)]; omega
      have hc2 : (convert 48 9 (.slice (some ⟨wr.heap.size, 0, none⟩) 1 1)).run Try.prog (wr.alloc (.cells #[.int .u8 (48 + (q : Int) % 2)] 5)) = .ok (.string (mk [UInt8.ofNat (48 + q % 2)])) (wr.alloc (.cells #[.int .u8 (48 + (q : Int) % 2)] 5)) := conv_new wr [UInt8.ofNat (48 + q % 2)] _ 1 (by show _ = [Value.int .u8 ((UInt8.ofNat (48 + q % 2)).toNat : Int)]; rw [hz]) rfl
      obtain ⟨y, hy⟩ : ∃ y, UInt8.ofNat (48 + q % 2) = y := ⟨_, rfl⟩
      rw [hy] at hz hc2
      have HY := Lib.hid hy
      clear hy
      have hu : (mk [y]).size = 1 := rfl
      clear hz
      go_wp2_with fail
      have hsz : (mk [y] ++ t).size = k + 1 := by rw [ByteArray.size_append, hu, ht]; omega
      have HQ := Lib.hid (show q / 2 = m / 2 ^ (k + 1) by rw [hq.out, Nat.pow_succ, Nat.div_div_eq_div_mul])
      have HT := Lib.hid (show mk [y] ++ t = mk (bitL (Hf.bits m (k + 1))) by rw [bitL_step, ← hq.out, HY.out, hT.out, mk_cat]; rfl)
      go_roundw
      case rel => exact ⟨k + 1, q / 2, _, by omega, by rw [Int.natCast_ediv]; rfl, rfl, rfl, hsz, HQ, HT, hB.alloc hB.size _⟩
      case measure => simp [intOf]; omega
    · have e : k = n := by omega
      subst e
      rw [R.out] at hT
      go_wp2_with fail
      go_ret
      exact ⟨by rw [hT.out]; rfl, hB⟩
end Go.Proofs.Ytfnfgjpeefagpaa
