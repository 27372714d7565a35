/- The contract of Size: how many bytes a text takes. For texts of at most 10^9 bytes. -/
import Derived.Test.YtamgnbjdeoklbaaProg
import Derived.Test.YtamgnbjdeoklbaaBytes
import Derived.Test.YtamgnbjdeoklbaaHfMath
import Derived.Test.YtamgnbjdeoklbaaHfLow
import Derived.WalkKit
import Derived.Lib.Hide
import Derived.Outline
import Derived.IntWalk
import Derived.WalkSpells
import Derived.WalkLawsBesides
namespace Go.Proofs.Ytamgnbjdeoklbaa
open Go.RowKit Bytes Hf

namespace Hf
theorem encB_snoc (l : List UInt8) (x : UInt8) : encB (l ++ [x]) = encB l ++ bits (cd x.toNat) (len x.toNat) := by
  rw [encB_cat]
  show _ ++ (bits (cd x.toNat) (len x.toNat) ++ []) = _
  rw [List.append_nil]
theorem lenB_snoc (l : List UInt8) (x : UInt8) : (encB (l ++ [x])).length = (encB l).length + len x.toNat := by
  rw [encB_snoc, List.length_append, bits_len]
end Hf

set_option maxHeartbeats 4000000 in
set_option maxRecDepth 100000 in
theorem hsize_is (s : ByteArray) (n : Nat) (w : World) (hs : s.size ≤ 1000000000) (h : Hid (sizeE s.data.toList = n)) :
    Calls Try.prog 75 #[.string s] w fun e w' => e = .returned (.int .i64 (n : Int)) ∧ w = w' := by
  go_enter Try.func75, Try.ntmps75
  go_wp2_with fail
  go_loop [3, 7] (fun b i => ∃ (k B : Nat), k ≤ s.size ∧ b = .int .u64 (B : Int) ∧ i = .int .i64 (k : Int) ∧ Hid ((encB (s.data.toList.take k)).length = B)) (fun _ i => s.size - (intOf i).toNat)
  case atStart => exact ⟨0, 0, Nat.zero_le _, rfl, rfl, Lib.hid rfl⟩
  case round =>
    obtain ⟨k, B, hk, rfl, rfl, hB⟩ := hrel
    have hbd := (encB_len (s.data.toList.take k)).2
    rw [hB.out, List.length_take, ← Lib.size_eq] at hbd
    by_cases hlt : k < s.size
    · obtain ⟨x, hx⟩ : ∃ x, s[k] = x := ⟨_, rfl⟩
      have hxl := byte_lt x
      have hlb := len_bd hxl
      have hle := letter_at hxl
      have hln := lt_nat hxl
      have hsn := lenB_snoc (s.data.toList.take k) x
      rw [hB.out, ← hx, ← getD_byte hlt, ← take_snoc (by rw [← Lib.size_eq]; exact hlt), getD_byte hlt, hx] at hsn
      have HSN := Lib.hid hsn
      have hx2 := x.toNat_lt
      clear hsn
      have e1 : IntKind.u64.wrap ((B : Int) + (len x.toNat : Int)) = ((B + len x.toNat : Nat) : Int) := by rw [IntKind.wrap_u64]; omega
      have e2 : IntKind.u64.wrap (len x.toNat : Int) = (len x.toNat : Int) := by rw [IntKind.wrap_u64]; omega
      have e3 : IntKind.i32.wrap ((lt x.toNat).toNat : Int) = (len x.toNat : Int) + 92 := by rw [IntKind.wrap_i32, hln]; omega
      go_wp2_with fail
      refine (bitsOf_is _ (len x.toNat) _ rfl hlb.1 hlb.2.1).mono ?_
      rintro e w' ⟨rfl, rfl⟩
      go_wp2_with fail
      go_round
      case rel => exact ⟨k + 1, B + len x.toNat, by omega, rfl, rfl, HSN⟩
      case measure => simp [intOf]; omega
    · have e : k = s.size := by omega
      subst e
      have hn := h.out
      unfold sizeE at hn
      have hB2 := hB.out
      rw [List.take_of_length_le (by rw [← Lib.size_eq]; exact Nat.le_refl _)] at hB2
      rw [hB2] at hn
      have e1 : IntKind.u64.wrap ((B : Int) + 8) = (B : Int) + 8 := by rw [IntKind.wrap_u64]; omega
      have e2 : IntKind.u64.wrap ((B : Int) + 8 - 1) = (B : Int) + 7 := by rw [IntKind.wrap_u64]; omega
      have e3 : IntKind.i64.wrap (n : Int) = (n : Int) := by rw [IntKind.wrap_i64]; omega
      have e4 : ((B : Int) + 7) / 8 = (n : Int) := by omega
      have HB := Lib.hid hB2
      clear hn hB2 hB
      go_wp2_with fail
      go_ret
      exact ⟨rfl, rfl⟩
end Go.Proofs.Ytamgnbjdeoklbaa
