/- Big-endian numbers, as lists of bytes. No program, no condition. -/
import Derived.Test.YteddepmiejlemaaProg
namespace Go.Proofs.Yteddepmiejlemaa

/-- Big-endian. -/
def be (l : List UInt8) : Nat := l.foldl (fun n c => n * 256 + c.toNat) 0
theorem be_snoc (l : List UInt8) (c : UInt8) : be (l ++ [c]) = be l * 256 + c.toNat := by simp [be, List.foldl_append]
theorem be_lt (l : List UInt8) : be l < 256 ^ l.length := by
  have key : ∀ (l : List UInt8) (a k : Nat), a < 256 ^ k → l.foldl (fun n c => n * 256 + c.toNat) a < 256 ^ (k + l.length) := by
    intro l
    induction l with
    | nil => intro a k h; simpa using h
    | cons c l ih =>
      intro a k h
      rw [List.foldl_cons, List.length_cons, show k + (l.length + 1) = (k + 1) + l.length from by omega]
      refine ih _ _ ?_
      have := c.toNat_lt
      rw [Nat.pow_succ]
      omega
  simpa [be] using key l 0 0 (by simp)
/-- The lowest j bytes of a number, big-endian. -/
def beTail (n : Nat) : Nat → List UInt8
  | 0 => []
  | j + 1 => UInt8.ofNat (n / 256 ^ j) :: beTail n j
theorem beTail_length (n j : Nat) : (beTail n j).length = j := by
  induction j with
  | zero => rfl
  | succ j ih => simp [beTail, ih]
theorem be_cons (c : UInt8) (l : List UInt8) : be (c :: l) = c.toNat * 256 ^ l.length + be l := by
  have key : ∀ (l : List UInt8) (a : Nat), l.foldl (fun n c => n * 256 + c.toNat) a = a * 256 ^ l.length + l.foldl (fun n c => n * 256 + c.toNat) 0 := by
    intro l
    induction l with
    | nil => intro a; simp
    | cons d l ih =>
      intro a
      rw [List.foldl_cons, List.foldl_cons, ih, ih (0 * 256 + d.toNat), List.length_cons, Nat.pow_succ]
      rw [Nat.add_mul, Nat.zero_mul, Nat.zero_add, Nat.mul_assoc, Nat.mul_comm 256, Nat.add_assoc]
  unfold be
  rw [List.foldl_cons, key]
  simp
theorem be_beTail (n j : Nat) : be (beTail n j) = n % 256 ^ j := by
  induction j with
  | zero => simp [beTail, be, Nat.mod_one]
  | succ j ih =>
    rw [beTail, be_cons, beTail_length, ih, Nat.pow_succ, Nat.mod_mul, UInt8.toNat_ofNat']
    have e : (2 : Nat) ^ 8 = 256 := rfl
    rw [e, Nat.add_comm, Nat.mul_comm]

end Go.Proofs.Yteddepmiejlemaa
