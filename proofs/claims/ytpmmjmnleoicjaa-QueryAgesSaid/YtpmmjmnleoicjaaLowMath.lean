/- Letters A to Z as a to z, over bytes. No program, no condition. -/
import Derived.Test.YtpmmjmnleoicjaaBytes
namespace Go.Proofs.Ytpmmjmnleoicjaa.Low
open Go Go.RowKit Bytes

/-- A letter A to Z as a to z. -/
def lowB (c : UInt8) : UInt8 := if 65 ≤ c.toNat ∧ c.toNat ≤ 90 then c + 32 else c
theorem lowB_up {c : UInt8} (h1 : 65 ≤ c.toNat) (h2 : c.toNat ≤ 90) : (lowB c).toNat = c.toNat + 32 := by
  unfold lowB
  rw [if_pos ⟨h1, h2⟩, UInt8.toNat_add]
  show (c.toNat + 32) % 256 = _
  omega
theorem lowB_no {c : UInt8} (h : ¬ (65 ≤ c.toNat ∧ c.toNat ≤ 90)) : lowB c = c := if_neg h
theorem lowB_low (c : UInt8) : lowB (lowB c) = lowB c := by
  by_cases h : 65 ≤ c.toNat ∧ c.toNat ≤ 90
  · exact lowB_no (by rw [lowB_up h.1 h.2]; omega)
  · rw [lowB_no h, lowB_no h]
def lowL (l : List UInt8) : List UInt8 := l.map lowB
theorem lowL_low (l : List UInt8) : lowL (lowL l) = lowL l := by simp [lowL, lowB_low]
def foldS (s : ByteArray) : ByteArray := mk (lowL s.data.toList)
theorem foldS_size (s : ByteArray) : (foldS s).size = s.size := by rw [foldS, mk_size, lowL, List.length_map, ← Lib.size_eq]
theorem foldS_fold (s : ByteArray) : foldS (foldS s) = foldS s := by unfold foldS; rw [mk_list, lowL_low]
theorem foldS_cat (s t : ByteArray) : foldS (s ++ t) = foldS s ++ foldS t := by
  apply list_inj
  rw [cat_list]
  simp only [foldS, mk_list, cat_list, lowL, List.map_append]

/-- Is a byte one from a to b? -/
def inB (a b : Nat) (c : UInt8) : Bool := decide (a ≤ c.toNat ∧ c.toNat ≤ b)

end Go.Proofs.Ytpmmjmnleoicjaa.Low
