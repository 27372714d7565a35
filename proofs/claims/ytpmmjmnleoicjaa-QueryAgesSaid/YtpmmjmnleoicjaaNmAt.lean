/- Bytes, numbers and names at places of a text: small facts. No condition. -/
import Derived.Test.YtpmmjmnleoicjaaProg
import Derived.Test.YtpmmjmnleoicjaaBytes
import Derived.Test.YtpmmjmnleoicjaaNmMath
import Derived.Test.YtpmmjmnleoicjaaNumGet
import Derived.WalkKit
import Derived.Lib.Hide
namespace Go.Proofs.Ytpmmjmnleoicjaa
open Go.RowKit NumMath NmMath Bytes

theorem be_bt {l : List UInt8} {p : Nat} (h : p < l.length) : be ((l.drop p).take 1) = bt l p := by
  rw [drop_cons h]
  unfold bt be
  simp
theorem holds_no {n p m : Nat} (h : n < p + m) : holdsB n (p : Int) (m : Int) = false := by simp [holdsB]; omega
theorem cut_extract (s : ByteArray) (p n : Nat) : (s.extract p (p + n)).data.toList = cut s.data.toList p n := by
  rw [extract_list]; unfold cut; rw [List.drop_take]; congr 1; omega
theorem cut_head {l : List UInt8} {p n : Nat} (h : p < l.length) : cut l p (n + 1) = l.getD p 0 :: cut l (p + 1) n := by
  unfold cut
  rw [drop_cons h, List.take_succ_cons]
/-- The name at any place, also one that is none. -/
def nmAt (l : List UInt8) (p : Int) : Except Nat (List UInt8 × Nat) := if p < 0 then .error 2 else nm l l.length 2 p.toNat p.toNat none []
theorem nmAt_list {s : ByteArray} {n : Nat} (h : n = s.size) : s.data.toList = s.data.toList.take n := by rw [h, Lib.size_eq, List.take_length]
end Go.Proofs.Ytpmmjmnleoicjaa
