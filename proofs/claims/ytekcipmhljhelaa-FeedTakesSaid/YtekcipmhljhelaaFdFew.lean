/- The law's Few of layer 15: pieces that are few and short together. For any pieces that came in. -/
import Derived.Test.YtekcipmhljhelaaProg
import Derived.Test.YtekcipmhljhelaaBytes
import Derived.Test.YtekcipmhljhelaaStrs
import Derived.WalkKit
import Derived.Lib.Hide
import Derived.Outline
import Derived.IntWalk
import Derived.WalkSpells
import Derived.WalkLawsBesides
import Derived.Deep.QuietTactic
import Derived.BigQuiet
namespace Go.Proofs.Ytekcipmhljhelaa
open Go.RowKit Bytes Strs

/-- The block at a place. -/
def blkAt (L : List (List UInt8)) (k : Nat) : ByteArray := mk (L.getD k [])
/-- So many bytes are in the first ones together. -/
def tot (L : List (List UInt8)) : Nat → Nat
  | 0 => 0
  | k + 1 => tot L k + (blkAt L k).size

theorem tot_le (L : List (List UInt8)) {k j : Nat} (h : k ≤ j) : tot L k ≤ tot L j := by
  induction j with
  | zero => rw [show k = 0 by omega]; exact Nat.le_refl _
  | succ j ih =>
    rcases Nat.lt_or_ge j k with h1 | h1
    · rw [show k = j + 1 by omega]; exact Nat.le_refl _
    · have := ih h1
      rw [tot]
      omega

set_option maxHeartbeats 4000000 in
set_option maxRecDepth 100000 in
theorem few_is (a : Option Addr) (n c : Nat) (L : List (List UInt8)) (w : World) (h : Hid (RdS w w.heap.size a L)) (hL : Hid (L.length = n)) (hn : n ≤ maxLen) :
    Calls Try.prog 7 #[.slice a n c] w fun e w' => (e = .returned (.bool true) ∧ w' = w ∧ Hid (n + tot L n < 60000)) ∨ (e = .returned (.bool false) ∧ w' = w) := by
  unfold maxLen at hn
  by_cases hbig : 60000 < n
  · have hbi : (60000 : Int) < (n : Int) := by omega
    have hni : (0 : Int) < (n : Int) := by omega
    clear hbig
    go_enter Try.func7, Try.ntmps7
    go_wp2_with fail
    go_loopw [3, 4] (fun x i wr => wr = w ∧ x = .int .i64 60000 ∧ i = .int .i64 0) (fun _ _ _ => 0)
    case atStart => exact ⟨rfl, rfl, rfl⟩
    case round =>
      obtain ⟨rfl, rfl, rfl⟩ := hrel
      go_wp2_with fail
      go_ret
      first | exact .inr ⟨rfl, rfl⟩ | exact ⟨rfl, rfl⟩ | rfl
  have hle : ¬ (60000 : Int) < (n : Int) := by omega
  go_enter Try.func7, Try.ntmps7
  go_wp2_with fail
  go_loopw [3, 4] (fun x i wr => ∃ (k s : Nat), wr = w ∧ k ≤ n ∧ x = .int .i64 (s : Int) ∧ i = .int .i64 (k : Int) ∧ s ≤ 120000 ∧ Hid (s < 60000 → n + tot L k = s)) (fun _ i _ => n - (intOf i).toNat)
  case atStart => exact ⟨0, n, rfl, Nat.zero_le _, rfl, rfl, by omega, Lib.hid (fun _ => rfl)⟩
  case round =>
    obtain ⟨k, s, rfl, hk, rfl, rfl, hs9, hA⟩ := hrel
    by_cases hlt : k < n
    · have hli : (k : Int) < (n : Int) := by omega
      by_cases hs3 : s < 60000
      · have hsi : (s : Int) < 60000 := by omega
        obtain ⟨ad, rfl, hb, hc⟩ := h.out.get (k := k) (by rw [hL.out]; exact hlt)
        have hA1 := hA.out hs3
        obtain ⟨x, hx⟩ : ∃ x, blkAt L k = x := ⟨_, rfl⟩
        have hc2 : wr.cell? (ad.add k) = some (.string x) := by rw [hc, ← hx]; rfl
        have e3 : IntKind.i64.wrap ((k : Int) + 1) = ((k + 1 : Nat) : Int) := by rw [IntKind.wrap_i64]; omega
        have hk0 : (0 : Int) ≤ (k : Int) := by omega
        by_cases hx3 : 60000 < x.size
        · have hxi : (60000 : Int) < (x.size : Int) := by omega
          have e1 : IntKind.i64.wrap ((s : Int) + 60000) = ((s + 60000 : Nat) : Int) := by rw [IntKind.wrap_i64]; omega
          have HN := Lib.hid (show s + 60000 < 60000 → n + tot L (k + 1) = s + 60000 from fun h3 => by omega)
          clear hA1 hx hc hx3
          go_wp2_with fail
          go_roundw
          case rel => exact ⟨k + 1, s + 60000, (by first | rfl | trivial), by omega, rfl, rfl, by omega, HN⟩
          case measure => simp [intOf] <;> omega
        · have hxi : ¬ (60000 : Int) < (x.size : Int) := by omega
          have e1 : IntKind.i64.wrap ((s : Int) + (x.size : Int)) = ((s + x.size : Nat) : Int) := by rw [IntKind.wrap_i64]; omega
          have HN := Lib.hid (show s + x.size < 60000 → n + tot L (k + 1) = s + x.size from fun h3 => by rw [tot, hx]; omega)
          have hs2 : s + x.size ≤ 120000 := by omega
          clear hA1 hx hc hx3
          go_wp2_with fail
          go_roundw
          case rel => exact ⟨k + 1, s + x.size, (by first | rfl | trivial), by omega, rfl, rfl, hs2, HN⟩
          case measure => simp [intOf] <;> omega
      · have hsi : ¬ (s : Int) < 60000 := by omega
        go_wp2_with fail
        go_ret
        first | exact .inr ⟨rfl, rfl⟩ | exact ⟨rfl, rfl⟩ | rfl
    · have hli : ¬ (k : Int) < (n : Int) := by omega
      have hkn : k = n := by omega
      by_cases hs3 : s < 60000
      · have hsi : (s : Int) < 60000 := by omega
        have hA1 := hA.out hs3
        rw [hkn] at hA1
        have HA1 : Hid (n + tot L n < 60000) := Lib.hid (by omega)
        clear hA1
        go_wp2_with fail
        go_ret
        first | exact .inl ⟨rfl, rfl, HA1⟩ | exact .inl ⟨rfl, rfl⟩ | exact ⟨rfl, rfl, HA1⟩ | exact ⟨rfl, HA1⟩ | exact HA1
      · have hsi : ¬ (s : Int) < 60000 := by omega
        go_wp2_with fail
        go_ret
        first | exact .inr ⟨rfl, rfl⟩ | exact ⟨rfl, rfl⟩ | rfl
end Go.Proofs.Ytekcipmhljhelaa
