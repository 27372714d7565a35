/- Frames that are made, as mathematics. No program. -/
import Derived.Test.YteddepmiejlemaaProg
import Derived.Test.YteddepmiejlemaaBytes
import Derived.Test.YteddepmiejlemaaNumBe
import Derived.Test.YteddepmiejlemaaFrMath
namespace Go.Proofs.Yteddepmiejlemaa.Fr
open Go Bytes

/-- Settings' bytes. -/
def setB : List (Nat × Nat) → List UInt8
  | [] => []
  | x :: L => beTail x.1 2 ++ (beTail x.2 4 ++ setB L)
theorem setB_cat : ∀ (A : List (Nat × Nat)) (x : Nat × Nat), setB (A ++ [x]) = setB A ++ (beTail x.1 2 ++ beTail x.2 4)
  | [], x => by simp [setB]
  | a :: A, x => by rw [List.cons_append, setB, setB_cat A x, setB]; simp only [List.append_assoc]
theorem setB_len : ∀ L : List (Nat × Nat), (setB L).length = 6 * L.length
  | [] => rfl
  | x :: L => by rw [setB, List.length_append, List.length_append, beTail_length, beTail_length, setB_len L, List.length_cons]; omega
def setF (L : List (Nat × Nat)) : Frm := ⟨4, 0, 0, mk (setB L)⟩
theorem wrong_code {f : Frm} {R1 R2 : Nat} (h : wrongF f = (R1, R2)) : R2 ≤ 6 := by
  have key : (wrongF f).2 ≤ 6 := by
    unfold wrongF headsF
    repeat' split
    all_goals decide
  rw [h] at key
  exact key
def resetF (a b : Nat) : Frm := ⟨3, 0, a % 2147483648, mk (beTail b 4)⟩
def goF (a b : Nat) : Frm := ⟨7, 0, 0, mk (beTail (a % 2147483648) 4 ++ beTail b 4)⟩
def winF (a b : Nat) : Frm := ⟨8, 0, a % 2147483648, mk (beTail (b % 2147483648) 4)⟩
end Go.Proofs.Yteddepmiejlemaa.Fr
