/- A record as a call has it: its fields, and its lists in memory. No condition. -/
import Derived.Test.YtpmmjmnleoicjaaProg
import Derived.Test.YtpmmjmnleoicjaaStrs
import Derived.Test.YtpmmjmnleoicjaaNums
import Derived.Test.YtpmmjmnleoicjaaRecMath
import Derived.Test.YtpmmjmnleoicjaaHeld
import Derived.WalkKit
import Derived.Lib.Hide
namespace Go.Proofs.Ytpmmjmnleoicjaa
open Go.RowKit Bytes Strs Nums RecMath

/-- These fields are the record's; its lists lie below block B. -/
structure RecAt (w : World) (B : Nat) (R : Rec) (x : ByteArray) (k l t : Nat) (A1 : Option Addr) (n1 : Nat) (A2 : Option Addr) (n2 : Nat) (A3 : Option Addr) (n3 : Nat) : Prop where
  name : x.data.toList = R.name
  kind : R.kind = k
  cls : R.cls = l
  ttl : R.ttl = t
  len1 : R.names.length = n1
  len2 : R.nums.length = n2
  len3 : R.texts.length = n3
  rd1 : RdS w B A1 R.names
  rd2 : RdN w B A2 R.nums
  rd3 : RdS w B A3 R.texts
theorem RecAt.on {w w' : World} {B B' : Nat} {R : Rec} {x : ByteArray} {k l t : Nat} {A1 : Option Addr} {n1 : Nat} {A2 : Option Addr} {n2 : Nat} {A3 : Option Addr} {n3 : Nat} (h : RecAt w B R x k l t A1 n1 A2 n2 A3 n3) (hb : Below B w w') (hB : B ≤ B') : RecAt w' B' R x k l t A1 n1 A2 n2 A3 n3 :=
  ⟨h.name, h.kind, h.cls, h.ttl, h.len1, h.len2, h.len3, h.rd1.on hb hB, h.rd2.on hb hB, h.rd3.on hb hB⟩
/-- A record that can be gone through. -/
structure Small (R : Rec) : Prop where
  name : R.name.length ≤ 100000
  n1 : R.names.length ≤ 100000
  s1 : ∀ k, k < R.names.length → (R.names.getD k []).length ≤ 100000
  n2 : R.nums.length ≤ 100000
  u2 : ∀ k, k < R.nums.length → R.nums.getD k 0 ≤ 4294967295
  n3 : R.texts.length ≤ 100000
  s3 : ∀ k, k < R.texts.length → (R.texts.getD k []).length ≤ 100000
section
variable {w : World} {B : Nat} {R : Rec} {x : ByteArray} {k l t : Nat} {A1 : Option Addr} {n1 : Nat} {A2 : Option Addr} {n2 : Nat} {A3 : Option Addr} {n3 : Nat}
theorem RecAt.size (h : RecAt w B R x k l t A1 n1 A2 n2 A3 n3) (hS : Small R) : x.size ≤ 100000 := by rw [Lib.size_eq, h.name]; exact hS.name
theorem RecAt.m1 (h : RecAt w B R x k l t A1 n1 A2 n2 A3 n3) (hS : Small R) : n1 ≤ 100000 := by rw [← h.len1]; exact hS.n1
theorem RecAt.m2 (h : RecAt w B R x k l t A1 n1 A2 n2 A3 n3) (hS : Small R) : n2 ≤ 100000 := by rw [← h.len2]; exact hS.n2
theorem RecAt.m3 (h : RecAt w B R x k l t A1 n1 A2 n2 A3 n3) (hS : Small R) : n3 ≤ 100000 := by rw [← h.len3]; exact hS.n3
theorem RecAt.s1 (h : RecAt w B R x k l t A1 n1 A2 n2 A3 n3) (hS : Small R) : Hid (∀ k, k < n1 → (R.names.getD k []).length ≤ 1000000) := fun k hk => Nat.le_trans (hS.s1 k (by rw [h.len1]; exact hk)) (by decide)
theorem RecAt.s3 (h : RecAt w B R x k l t A1 n1 A2 n2 A3 n3) (hS : Small R) : Hid (∀ k, k < n3 → (R.texts.getD k []).length ≤ 1000000) := fun k hk => Nat.le_trans (hS.s3 k (by rw [h.len3]; exact hk)) (by decide)
theorem RecAt.box (h : RecAt w w.heap.size R x k l t A1 n1 A2 n2 A3 n3) (o : Obj) : RecAt (w.alloc o) (w.alloc o).heap.size R x k l t A1 n1 A2 n2 A3 n3 := h.on ((Below.refl _ _).alloc (Nat.le_refl _) o) (by simp)
end
end Go.Proofs.Ytpmmjmnleoicjaa
