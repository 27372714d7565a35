/- Frames, as mathematics: what bytes begin with, a frame's bytes, what is wrong with it by itself, its content. No program. -/
import Derived.Test.YteddepmiejlemaaProg
import Derived.Test.YteddepmiejlemaaBytes
import Derived.Test.YteddepmiejlemaaNumBe
namespace Go.Proofs.Yteddepmiejlemaa.Fr
open Go Bytes

/-- A frame: type, flags, stream, payload. -/
structure Frm where
  ty : Nat
  fl : Nat
  st : Nat
  data : ByteArray
def vF (f : Frm) : Value := .agg #[.int .u8 (f.ty : Int), .int .u8 (f.fl : Int), .int .u32 (f.st : Int), .string f.data]
/-- Its numbers are what they may be. -/
structure Okf (f : Frm) : Prop where
  ty : f.ty < 256
  fl : f.fl < 256
  st : f.st < 4294967296
/-- A number of n bytes at a place. -/
def gN (s : ByteArray) (i n : Nat) : Nat := be ((s.data.toList.drop i).take n)
/-- A byte. -/
def bN (s : ByteArray) (i : Nat) : Nat := (s.data.toList.getD i 0).toNat
def noF : Frm := ⟨0, 0, 0, ⟨#[]⟩⟩
def parseF (s : ByteArray) : Frm × Nat × Nat :=
  if s.size < 9 then (noF, 0, 2)
  else if 16384 < gN s 0 3 then (noF, 0, 3)
  else if s.size - 9 < gN s 0 3 then (noF, 0, 2)
  else (⟨bN s 3, bN s 4, gN s 5 4 % 2147483648, s.extract 9 (9 + gN s 0 3)⟩, 9 + gN s 0 3, 0)
/-- The nine bytes ahead of a payload. -/
def headF (f : Frm) : List UInt8 := beTail f.data.size 3 ++ ([UInt8.ofNat f.ty, UInt8.ofNat f.fl] ++ beTail f.st 4)
def printF (f : Frm) : List UInt8 × Nat :=
  if 2147483647 < f.st then ([], 1) else if 16384 < f.data.size then ([], 3) else (headF f ++ f.data.data.toList, 0)
def flagF (f : Frm) (b : Nat) : Bool := decide (f.fl / b % 2 = 1)
def selfF (f : Frm) (i : Nat) : Bool := decide (gN f.data i 4 % 2147483648 = f.st)
def aheadF (f : Frm) : Nat := (if flagF f 8 = true then 1 else 0) + (if f.ty = 1 ∧ flagF f 32 = true then 5 else 0)
def headsF (f : Frm) : Nat × Nat :=
  if f.st = 0 then (2, 1)
  else if f.data.size < aheadF f then (2, 6)
  else if flagF f 8 = true ∧ f.data.size - aheadF f < bN f.data 0 then (2, 1)
  else if flagF f 32 = true ∧ selfF f (aheadF f - 5) = true then (1, 1)
  else (0, 0)
def wrongF (f : Frm) : Nat × Nat :=
  match f.ty with
  | 0 => if f.st = 0 then (2, 1) else if flagF f 8 = true ∧ f.data.size = 0 then (2, 6) else if flagF f 8 = true ∧ f.data.size ≤ bN f.data 0 then (2, 1) else (0, 0)
  | 1 => headsF f
  | 2 => if f.st = 0 then (2, 1) else if f.data.size ≠ 5 then (1, 6) else if selfF f 0 = true then (1, 1) else (0, 0)
  | 3 => if f.st = 0 then (2, 1) else if f.data.size ≠ 4 then (2, 6) else (0, 0)
  | 4 => if f.st ≠ 0 then (2, 1) else if (flagF f 1 = true ∧ f.data.size ≠ 0) ∨ f.data.size % 6 ≠ 0 then (2, 6) else (0, 0)
  | 5 => (2, 1)
  | 6 => if f.st ≠ 0 then (2, 1) else if f.data.size ≠ 8 then (2, 6) else (0, 0)
  | 7 => if f.st ≠ 0 then (2, 1) else if f.data.size < 8 then (2, 6) else (0, 0)
  | 8 => if f.data.size ≠ 4 then (2, 6) else if gN f.data 0 4 % 2147483648 = 0 ∧ f.st = 0 then (2, 1) else if gN f.data 0 4 % 2147483648 = 0 then (1, 1) else (0, 0)
  | 9 => if f.st = 0 then (2, 1) else (0, 0)
  | _ => (0, 0)
/-- What stands behind the content. -/
def padF (f : Frm) : Nat := if flagF f 8 = true then bN f.data 0 else 0
def contentF (f : Frm) : ByteArray :=
  if 1 < f.ty ∨ (wrongF f).1 = 2 then f.data else f.data.extract (aheadF f) (f.data.size - padF f)
theorem gN_lt (s : ByteArray) (i n : Nat) : gN s i n < 256 ^ n := by
  have h := be_lt ((s.data.toList.drop i).take n)
  have h2 : ((s.data.toList.drop i).take n).length ≤ n := List.length_take_le ..
  exact Nat.lt_of_lt_of_le h (Nat.pow_le_pow_right (by omega) h2)
theorem bN_lt (s : ByteArray) (i : Nat) : bN s i < 256 := (s.data.toList.getD i 0).toNat_lt
theorem bN_at {s : ByteArray} {i : Nat} (h : i < s.size) : bN s i = s[i].toNat := by unfold bN; rw [getD_byte h]
theorem size_l (s : ByteArray) : s.data.toList.length = s.size := by rw [Array.length_toList]; rfl
theorem ahead_le (f : Frm) : aheadF f ≤ 6 := by unfold aheadF; split <;> split <;> omega
/-- Where nothing is wrong for the connection, the padding is there. -/
theorem pad_le {f : Frm} (ht : f.ty ≤ 1) (hw : (wrongF f).1 ≠ 2) : aheadF f + padF f ≤ f.data.size := by
  unfold wrongF at hw
  have h01 : f.ty = 0 ∨ f.ty = 1 := by omega
  unfold padF
  rcases h01 with h | h
  · rw [h] at hw
    simp only at hw
    have ha : aheadF f = if flagF f 8 = true then 1 else 0 := by unfold aheadF; rw [h]; simp
    rw [ha]
    by_cases h8 : flagF f 8 = true
    · rw [if_pos h8, if_pos h8]
      split at hw
      · exact absurd rfl hw
      · split at hw
        · exact absurd rfl hw
        · split at hw
          · exact absurd rfl hw
          · rename_i h2
            have : ¬ f.data.size ≤ bN f.data 0 := fun e => h2 ⟨h8, e⟩
            omega
    · rw [if_neg h8, if_neg h8]; omega
  · rw [h] at hw
    simp only at hw
    unfold headsF at hw
    split at hw
    · exact absurd rfl hw
    · split at hw
      · exact absurd rfl hw
      · split at hw
        · exact absurd rfl hw
        · rename_i h1 h2
          by_cases h8 : flagF f 8 = true
          · rw [if_pos h8]
            have : ¬ f.data.size - aheadF f < bN f.data 0 := fun e => h2 ⟨h8, e⟩
            omega
          · rw [if_neg h8]; omega
end Go.Proofs.Yteddepmiejlemaa.Fr
