/- A frame's box; the document's number that is there (layer 14). For payloads of at most 10^6 bytes. -/
import Derived.Test.YtekcipmhljhelaaProg
import Derived.Test.YtekcipmhljhelaaBytes
import Derived.Test.YtekcipmhljhelaaNumBe
import Derived.Test.YtekcipmhljhelaaQuiet
import Derived.Test.YtekcipmhljhelaaNumRefGet
import Derived.Test.YtekcipmhljhelaaFrMath
import Derived.WalkKit
import Derived.Lib.Hide
import Derived.Laws.Rows
import Derived.Outline
import Derived.IntWalk
import Derived.WalkSpells
import Derived.WalkLawsBesides
import Derived.Deep.QuietTactic
import Derived.BigQuiet
import Derived.Deep.CutRange
namespace Go.Proofs.Ytekcipmhljhelaa
open Go Go.RowKit Bytes Fr

namespace Fr
/-- A frame's box. -/
def BoxF (w : World) (X : Nat) (f : Frm) : Prop := w.heap[X]? = some (.cells #[.int .u8 (f.ty : Int), .int .u8 (f.fl : Int), .int .u32 (f.st : Int), .string f.data] 40 (0, 0))
section
variable {w w' : World} {X : Nat} {f : Frm}
theorem BoxF.lt (h : BoxF w X f) : X < w.heap.size := by
  rcases Nat.lt_or_ge X w.heap.size with h1 | h1
  · exact h1
  · unfold BoxF at h; rw [Array.getElem?_eq_none h1] at h; cases h
theorem BoxF.below (h : BoxF w X f) (hB : Below w.heap.size w w') : BoxF w' X f := (hB.block X h.lt).trans h
theorem BoxF.c (h : BoxF w X f) : w.cell? ⟨X, 0, none⟩ = some (.int .u8 (f.ty : Int)) ∧ w.cell? ⟨X, 1, none⟩ = some (.int .u8 (f.fl : Int)) ∧ w.cell? ⟨X, 2, none⟩ = some (.int .u32 (f.st : Int)) ∧ w.cell? ⟨X, 3, none⟩ = some (.string f.data) := by
  unfold BoxF at h
  simp [World.cell?, h]
theorem boxF_new (w : World) (f : Frm) : BoxF (w.alloc (.cells #[.int .u8 (f.ty : Int), .int .u8 (f.fl : Int), .int .u32 (f.st : Int), .string f.data] 40)) w.heap.size f ∧ Below w.heap.size w (w.alloc (.cells #[.int .u8 (f.ty : Int), .int .u8 (f.fl : Int), .int .u32 (f.st : Int), .string f.data] 40)) :=
  ⟨heap_alloc_new w _, (Below.refl _ w).alloc (Nat.le_refl _) _⟩
end
end Fr

theorem fget_is (s : ByteArray) (i n R : Nat) (w : World) (hs : s.size ≤ 1000000) (h1 : 1 ≤ n) (h4 : n ≤ 4) (hi : i + n ≤ s.size) (hR : Hid (gN s i n = R)) :
    Calls Try.prog 26 #[.string s, .int .i64 (i : Int), .int .i64 (n : Int)] w fun e w' => e = .returned (.int .i64 (R : Int)) ∧ w = w' := by
  have hlt : R < 4294967296 := by
    rw [← hR.out]
    exact Nat.lt_of_lt_of_le (gN_lt s i n) (Nat.le_trans (Nat.pow_le_pow_right (by omega) h4) (by decide))
  have HG := Lib.hid (rget_at s i n w (by unfold maxLen; omega) h1 (by omega) hi)
  rw [show be ((s.data.toList.drop i).take n) = R from hR.out] at HG
  have ew : IntKind.i64.wrap (R : Int) = (R : Int) := by rw [IntKind.wrap_i64]; omega
  clear hR
  go_enter Try.func26, Try.ntmps26
  go_wp2_with fail
  refine HG.out.mono ?_
  rintro e w' ⟨rfl, rfl⟩
  go_wp2_with fail
  go_ret
  exact ⟨rfl, rfl⟩
end Go.Proofs.Ytekcipmhljhelaa
