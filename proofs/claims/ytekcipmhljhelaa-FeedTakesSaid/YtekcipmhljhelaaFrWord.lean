/- The code's word of layer 14: a number without its highest bit. For texts of at most 10^6 bytes. -/
import Derived.Test.YtekcipmhljhelaaProg
import Derived.Test.YtekcipmhljhelaaBytes
import Derived.Test.YtekcipmhljhelaaNumBe
import Derived.Test.YtekcipmhljhelaaNumGet
import Derived.Test.YtekcipmhljhelaaFrMath
import Derived.Test.YtekcipmhljhelaaFrBox
import Derived.WalkKit
import Derived.Lib.Hide
import Derived.Laws.Rows
import Derived.Outline
import Derived.IntWalk
import Derived.WalkSpells
import Derived.WalkLawsBesides
import Derived.Deep.CutRange
namespace Go.Proofs.Ytekcipmhljhelaa
open Go Go.RowKit Bytes Fr

namespace Fr
theorem ofInt32_nat {a : Nat} (ha : a < 4294967296) : (BitVec.ofInt 32 (a : Int)).toNat = a := by
  rw [BitVec.ofInt_natCast, BitVec.toNat_ofNat]
  omega
theorem and32 {a b : Nat} (ha : a < 4294967296) (hb : b < 4294967296) : bits .and .u32 (a : Int) (b : Int) = ((a &&& b : Nat) : Int) := by
  have hx : a &&& b ≤ a := Nat.and_le_left
  show IntKind.u32.wrap ((BitVec.ofInt 32 (a : Int) &&& BitVec.ofInt 32 (b : Int)).toNat : Int) = _
  rw [BitVec.toNat_and, ofInt32_nat ha, ofInt32_nat hb, IntKind.wrap_u32]
  omega
/-- A number without its highest bit. -/
theorem and31 (n m : Nat) (hn : n < 4294967296) (hm : n % 2147483648 = m) : bits .and .u32 (n : Int) 2147483647 = (m : Int) := by
  rw [← hm]
  have h := and32 (b := 2147483647) hn (by omega)
  rw [show ((2147483647 : Nat) : Int) = 2147483647 from rfl] at h
  rw [h]
  congr 1
  have := Nat.and_two_pow_sub_one_eq_mod n 31
  simpa using this
end Fr

set_option maxHeartbeats 4000000 in
set_option maxRecDepth 100000 in
theorem cword_is (s : ByteArray) (i M : Nat) (w : World) (hs : s.size ≤ 1000000) (hi : i + 4 ≤ s.size) (hM : Hid (gN s i 4 % 2147483648 = M)) :
    Calls Try.prog 32 #[.string s, .int .i64 (i : Int)] w fun e w' => e = .returned (.int .u32 (M : Int)) ∧ w = w' := by
  obtain ⟨R, hR⟩ : ∃ R, gN s i 4 = R := ⟨_, rfl⟩
  have hRb : R < 4294967296 := by rw [← hR]; exact gN_lt s i 4
  have HG := Lib.hid (get_yes s i 4 w (by unfold maxLen; omega) (by decide) (by decide) hi)
  rw [show be ((s.data.toList.drop i).take 4) = R from hR] at HG
  have hmm := hM.out
  rw [hR] at hmm
  have hA := and31 R M hRb hmm
  have ew : IntKind.u32.wrap (R : Int) = (R : Int) := by rw [IntKind.wrap_u32]; omega
  clear hR hM
  go_enter Try.func32, Try.ntmps32
  go_wp2_with fail
  refine HG.out.mono ?_
  rintro e w' ⟨rfl, rfl⟩
  go_wp2_with fail
  go_ret
  exact ⟨rfl, rfl⟩
end Go.Proofs.Ytekcipmhljhelaa
