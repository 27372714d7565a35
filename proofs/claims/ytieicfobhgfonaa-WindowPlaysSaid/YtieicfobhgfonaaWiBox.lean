/- An act of layer 17 in a box. No condition. -/
import Derived.Test.YtieicfobhgfonaaProg
import Derived.Test.YtieicfobhgfonaaWiCame
import Derived.Test.YtieicfobhgfonaaWiMath
import Derived.WalkKit
import Derived.Lib.Hide
import Derived.Laws.Rows
namespace Go.Proofs.Ytieicfobhgfonaa.Wi
open Go Go.RowKit
def BoxA (w : World) (X : Nat) (x : Ac) : Prop := w.heap[X]? = some (.cells #[.int .i64 x.kind, .int .u32 (x.id : Int), .int .u32 (x.n : Int), .int .i64 x.want] 34 (0, 0))
section
variable {w w' : World} {X : Nat} {x : Ac}
theorem BoxA.lt (h : BoxA w X x) : X < w.heap.size := by
  rcases Nat.lt_or_ge X w.heap.size with h1 | h1
  · exact h1
  · unfold BoxA at h; rw [Array.getElem?_eq_none h1] at h; cases h
theorem BoxA.below (h : BoxA w X x) (hB : Below w.heap.size w w') : BoxA w' X x := (hB.block X h.lt).trans h
theorem BoxA.cells (h : BoxA w X x) : w.cell? ⟨X, 0, none⟩ = some (.int .i64 x.kind) ∧ w.cell? ⟨X, 1, none⟩ = some (.int .u32 (x.id : Int)) ∧ w.cell? ⟨X, 2, none⟩ = some (.int .u32 (x.n : Int)) ∧ w.cell? ⟨X, 3, none⟩ = some (.int .i64 x.want) :=
  ⟨cell_of_row _ _ 0 _ _ _ h, cell_of_row _ _ 1 _ _ _ h, cell_of_row _ _ 2 _ _ _ h, cell_of_row _ _ 3 _ _ _ h⟩
theorem boxA_new (w : World) (x : Ac) : BoxA (w.alloc (.cells #[.int .i64 x.kind, .int .u32 (x.id : Int), .int .u32 (x.n : Int), .int .i64 x.want] 34)) w.heap.size x ∧ Below w.heap.size w (w.alloc (.cells #[.int .i64 x.kind, .int .u32 (x.id : Int), .int .u32 (x.n : Int), .int .i64 x.want] 34)) ∧ (w.alloc (.cells #[.int .i64 x.kind, .int .u32 (x.id : Int), .int .u32 (x.n : Int), .int .i64 x.want] 34)).heap.size = w.heap.size + 1 :=
  ⟨heap_alloc_new w _, (Below.refl _ w).alloc (Nat.le_refl _) _, by simp⟩
end
theorem Inv.to {K L : Int} {b : Bk} (h : Inv K b) (hl : K ≤ L) : Inv L b := h.more hl
end Go.Proofs.Ytieicfobhgfonaa.Wi
