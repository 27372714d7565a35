/- More of feeds, as mathematics: bytes that come to a new feed, what is held at most. No program. -/
import Derived.Test.YtekcipmhljhelaaProg
import Derived.Test.YtekcipmhljhelaaBytes
import Derived.Test.YtekcipmhljhelaaFrMath
import Derived.Test.YtekcipmhljhelaaFdMath
namespace Go.Proofs.Ytekcipmhljhelaa.Fd
open Go Bytes Fr

theorem add_whole {q : Bool} {l : List UInt8} {K : List Frm} (h : all q l = (K, 0, 0)) : add ⟨q, [], false⟩ l = (K, 0, ⟨still q l, [], false⟩) := by
  unfold add
  show (if false = true then _ else if (all q ([] ++ l)).2.1 ≠ 0 then _ else _) = _
  rw [if_neg (by decide), List.nil_append, h]
  show (if (0 : Nat) ≠ 0 then _ else _) = _
  rw [if_neg (by decide)]
  show (K, 0, FSt.mk _ (l.drop (l.length - 0)) false) = _
  rw [Nat.sub_zero, List.drop_length]
theorem add_held {S S' : FSt} {s : List UInt8} {gs : List Frm} {d : Nat} (h : add S s = (gs, d, S')) (hS : S.held.length < 16393) : S'.held.length < 16393 := by
  unfold add at h
  split at h
  · injection h with _ h
    injection h with _ h
    rw [← h]
    exact hS
  · split at h
    · injection h with _ h
      injection h with _ h
      rw [← h]
      show ([] : List UInt8).length < 16393
      simp
    · injection h with _ h
      injection h with _ h
      rw [← h]
      have h2 := all_held S.want (S.held ++ s)
      show (List.drop _ _).length < 16393
      rw [List.length_drop]
      omega
/-- A frame takes a byte at least. -/
theorem run_few : ∀ l, (run l).1.length ≤ l.length := by
  apply run_ind
  · intro l f n h; rw [run_long h]; exact Nat.zero_le _
  · intro l f n h; rw [run_short h]; exact Nat.zero_le _
  · intro l f n h h9 hn ih
    rw [run_one h]
    show (run (l.drop n)).1.length + 1 ≤ l.length
    rw [List.length_drop] at ih
    omega
theorem all_few (q : Bool) (l : List UInt8) : (all q l).1.length ≤ l.length := by
  unfold all
  have h1 := run_few l
  have h2 := run_few (l.drop 24)
  rw [List.length_drop] at h2
  split
  · split
    · omega
    · split <;> exact Nat.zero_le _
  · exact h1
end Go.Proofs.Ytekcipmhljhelaa.Fd
