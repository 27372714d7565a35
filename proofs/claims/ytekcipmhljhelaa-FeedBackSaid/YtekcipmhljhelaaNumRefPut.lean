/- The contract of the document's Put: a text with a number's lowest bytes behind it, big-endian. For texts of at most 10^6 bytes, sizes up to 8. -/
import Derived.Test.YtekcipmhljhelaaProg
import Derived.Test.YtekcipmhljhelaaBytes
import Derived.Test.YtekcipmhljhelaaNumBe
import Derived.WalkKit
import Derived.Lib.Hide
import Derived.Outline
import Derived.IntWalk
import Derived.WalkSpells
import Derived.WalkLawsBesides
namespace Go.Proofs.Ytekcipmhljhelaa
open Go.RowKit Bytes

theorem ofNat_mod (x : Nat) : ((UInt8.ofNat x).toNat : Int) = (x : Int) % 256 := by
  rw [UInt8.toNat_ofNat']
  have e : (2 : Nat) ^ 8 = 256 := rfl
  omega
set_option maxHeartbeats 2000000 in
theorem refPut_is (s r : ByteArray) (n k : Nat) (w : World) (hs : s.size ≤ 1000000) (hk : k ≤ 8) (hn : n ≤ 18446744073709551615) (hr : Hid (s.data.toList ++ beTail n k = r.data.toList)) :
    Calls Try.prog 21 #[.string s, .int .u64 n, .int .i64 k] w fun e w' => e = .returned (.string r) ∧ Below w.heap.size w w' := by
  generalize hg : w.heap.size = g at *
  have G := Lib.hid hg; clear hg
  go_enter Try.func21, Try.ntmps21
  go_wp2_with fail
  go_loopw [7, 8, 1] (fun v i u wr => ∃ (j x : Nat) (t : ByteArray), j ≤ k ∧ i = .int .i64 j ∧ u = .int .u64 x ∧ v = .string t ∧ t.size ≤ 8 ∧ x ≤ n ∧ Hid (t = mk (beTail n j)) ∧ Hid (x = n / 256 ^ j) ∧ Below g w wr) (fun _ i _ _ => k - (intOf i).toNat)
  case atStart => exact ⟨0, n, _, Nat.zero_le _, rfl, rfl, rfl, by decide, Nat.le_refl _, Lib.hid rfl, Lib.hid (by simp), Below.refl _ _⟩
  case round =>
    obtain ⟨j, x, t, hj, rfl, rfl, rfl, ht, hxn, hT, hX, hB⟩ := hrel
    by_cases hlt : j < k
    · have h8 : (j : Int) < 8 := by omega
      have hc2 : (convert 43 9 (.slice (some ⟨wr.heap.size, 0, none⟩) 1 1)).run Try.prog (wr.alloc (.cells #[.int .u8 ((x : Int) % 256)] 5)) = .ok (.string (mk [UInt8.ofNat x])) (wr.alloc (.cells #[.int .u8 ((x : Int) % 256)] 5)) := conv_new wr [UInt8.ofNat x] _ 1 (by rw [← ofNat_mod]; rfl) rfl
      have hq := mk_size [UInt8.ofNat x]
      have hcat : mk [UInt8.ofNat x] ++ t = mk (beTail n (j + 1)) := by rw [hT.out, mk_cat, hX.out]; rfl
      have hX2 : Hid (x / 256 = n / 256 ^ (j + 1)) := by show _ = _; rw [Nat.pow_succ, ← Nat.div_div_eq_div_mul, ← hX.out]
      have hz : (mk [UInt8.ofNat x] ++ t).size ≤ 8 := by rw [hcat, mk_size, beTail_length]; omega
      generalize mk [UInt8.ofNat x] = q at *
      have hq1 : q.size ≤ 1 := Nat.le_of_eq hq
      have HC := Lib.hid hcat
      clear hq hcat hT hX
      go_wp2_with fail
      go_roundw
      case rel => exact ⟨j + 1, x / 256, _, by omega, by go_num, by go_num, rfl, hz, by omega, HC, hX2, hB.alloc (by have := hB.size; have := G.out; omega) _⟩
      case measure => simp [intOf]; omega
    · obtain rfl : j = k := by omega
      have hr2 : r = s ++ t := list_inj (by rw [← hr.out, cat_list, hT.out, mk_list])
      have HR := Lib.hid hr2
      clear hr2 hT hX hr
      go_wp2_with fail
      go_ret
      exact ⟨by rw [HR.out]; rfl, hB⟩
end Go.Proofs.Ytekcipmhljhelaa
