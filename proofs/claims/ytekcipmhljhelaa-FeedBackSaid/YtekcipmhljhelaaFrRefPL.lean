/- The document's Print of layer 14, of a payload of any size. -/
import Derived.Test.YtekcipmhljhelaaProg
import Derived.Test.YtekcipmhljhelaaBytes
import Derived.Test.YtekcipmhljhelaaNumBe
import Derived.Test.YtekcipmhljhelaaFrMath
import Derived.Test.YtekcipmhljhelaaFrBox
import Derived.Test.YtekcipmhljhelaaFrRefP
import Derived.WalkKit
import Derived.Lib.Hide
import Derived.Laws.Rows
import Derived.Outline
import Derived.IntWalk
import Derived.WalkSpells
import Derived.WalkLawsBesides
import Derived.Deep.CutRange
namespace Go.Proofs.Ytekcipmhljhelaa
open Go Go.RowKit Bytes Fr

set_option maxHeartbeats 8000000 in
set_option maxRecDepth 100000 in
theorem fprint_long (f : Frm) (l : List UInt8) (c : Nat) (r : ByteArray) (w : World) (hf : Okf f) (hs : f.data.size ≤ maxLen) (hlong : 16384 < f.data.size) (hr : Hid (printF f = (l, c))) (hl : Hid (mk l = r)) :
    Calls Try.prog 14 #[.agg #[.int .u8 (f.ty : Int), .int .u8 (f.fl : Int), .int .u32 (f.st : Int), .string f.data]] w fun e w' => e = .returned (.tuple #[.string r, .int .i64 (c : Int)]) ∧ Below w.heap.size w w' := by
  obtain ⟨hX0, hB⟩ := boxF_new w f
  obtain ⟨X, hX⟩ : ∃ X, w.heap.size = X := ⟨_, rfl⟩
  rw [hX] at hX0 hB ⊢
  have HX := Lib.hid hX0
  have HB := Lib.hid hB
  have hst := hf.st
  unfold maxLen at hs
  have hrr := hr.out
  unfold printF at hrr
  have hll := hl.out
  clear hX0 hB hr hl
  obtain ⟨a0, a1, a2, a3⟩ := HX.out.c
  go_enter Try.func14, Try.ntmps14
  go_upto_region 1 with fail
  generalize w.alloc (.cells #[.int .u8 (f.ty : Int), .int .u8 (f.fl : Int), .int .u32 (f.st : Int), .string f.data] 40) = W at *
  clear hX
  by_cases h1 : 2147483647 < f.st
  · have s1 : (2147483647 : Int) < (f.st : Int) := by omega
    rw [if_pos h1] at hrr
    injection hrr with e1 e2
    subst e1 e2
    subst hll
    clear h1
    go_wp2_with fail
    go_ret2
    exact ⟨rfl, HB.out⟩
  have s1 : ¬ ((2147483647 : Int) < (f.st : Int)) := by omega
  have s1d : decide ((2147483647 : Int) < (f.st : Int)) = false := decide_eq_false s1
  rw [if_neg h1] at hrr
  have h2 := hlong
  · have s2 : (16384 : Int) < (f.data.size : Int) := by omega
    rw [if_pos h2] at hrr
    injection hrr with e1 e2
    subst e1 e2
    subst hll
    clear h2
    go_wp2_with fail
    go_ret2
    exact ⟨rfl, HB.out⟩

theorem fprint_any (f : Frm) (l : List UInt8) (c : Nat) (r : ByteArray) (w : World) (hf : Okf f) (hs : f.data.size ≤ maxLen) (hr : Hid (printF f = (l, c))) (hl : Hid (mk l = r)) :
    Calls Try.prog 14 #[.agg #[.int .u8 (f.ty : Int), .int .u8 (f.fl : Int), .int .u32 (f.st : Int), .string f.data]] w fun e w' => e = .returned (.tuple #[.string r, .int .i64 (c : Int)]) ∧ Below w.heap.size w w' := by
  by_cases h : 16384 < f.data.size
  · exact fprint_long f l c r w hf hs h hr hl
  · exact fprint_is f l c r w hf (by omega) hr hl
end Go.Proofs.Ytekcipmhljhelaa
