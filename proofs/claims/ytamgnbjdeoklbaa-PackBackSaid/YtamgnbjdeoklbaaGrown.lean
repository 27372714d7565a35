/- What a call may have written: one block that stood, and new ones. No condition. -/
import Derived.Test.YtamgnbjdeoklbaaProg
import Derived.WalkKit
import Derived.Lib.Hide
import Derived.Laws.Rows
import Derived.Laws.AppendOwn
import Derived.Deep.QuietTactic
import Derived.Deep.Draws
namespace Go.Proofs.Ytamgnbjdeoklbaa
open Go Go.RowKit

theorem only_setCell {a w : World} {g : Nat} (h : a.grownBy w (some g)) {p : Addr} (hp : p.block = g ∨ a.heap.size ≤ p.block) (u : Value) : a.grownBy (w.setCell p u) (some g) :=
  ⟨h.os, h.tape, h.output, by simpa [World.setCell] using h.size, fun i hi hne => (Below.heap_setCell w p u i (by
    rintro rfl
    rcases hp with hp | hp
    · exact hne (by rw [hp])
    · omega)).trans (h.block i hi hne)⟩
theorem only_of_below {a w : World} (h : Below a.heap.size a w) (row : Option Nat) : a.grownBy w row := ⟨h.os, h.tape, h.output, h.size, fun i hi _ => h.block i hi⟩
theorem grown_block {a b : World} {r k : Nat} (h : a.grownBy b (some r)) (hk : k < a.heap.size) (hne : k ≠ r) : b.heap[k]? = a.heap[k]? :=
  h.block k hk (fun e => by injection e with e; exact hne e)
theorem grown_drewN {a w : World} {row : Option Nat} (h : a.grownBy w row) (n : Nat) : a.grownBy (w.drewN n) row := ⟨h.os, h.tape, h.output, h.size, h.block⟩
theorem grown_refl (a : World) (row : Option Nat) : a.grownBy a row := ⟨rfl, rfl, rfl, Nat.le_refl _, fun _ _ _ => rfl⟩
theorem grown_trans {a b c : World} {r : Nat} (h : a.grownBy b (some r)) (k : b.grownBy c (some r)) : a.grownBy c (some r) :=
  ⟨k.os.trans h.os, k.tape.trans h.tape, k.output.trans h.output, Nat.le_trans h.size k.size, fun i hi hne => (k.block i (Nat.lt_of_lt_of_le hi h.size) hne).trans (h.block i hi hne)⟩
/-- What wrote a block that is new, behind what wrote one that stood. -/
theorem grown_new {a b c : World} {r q : Nat} (h : a.grownBy b (some r)) (k : b.grownBy c (some q)) (hq : a.heap.size ≤ q) : a.grownBy c (some r) :=
  ⟨k.os.trans h.os, k.tape.trans h.tape, k.output.trans h.output, Nat.le_trans h.size k.size, fun i hi hne => (k.block i (Nat.lt_of_lt_of_le hi h.size) (by intro e; injection e with e; omega)).trans (h.block i hi hne)⟩
/-- The written block is a new one: nothing that stood has changed. -/
theorem below_of_grown {a b c : World} {q B : Nat} (h : Below B a b) (k : b.grownBy c (some q)) (hq : B ≤ q) (hB : B ≤ b.heap.size) : Below B a c :=
  h.grown k (by omega) (fun x hx => by injection hx with hx; omega)
theorem new_at (W : World) (o : Obj) (k : Nat) (hk : k = W.heap.size) : (W.alloc o).heap[k]? = some o := by rw [hk]; exact heap_alloc_new W o
theorem old_at {W : World} {o x : Obj} {k : Nat} (h : W.heap[k]? = some x) : (W.alloc o).heap[k]? = some x := by
  have hk : k < W.heap.size := by
    rcases Nat.lt_or_ge k W.heap.size with hlt | hge
    · exact hlt
    · rw [Array.getElem?_eq_none hge] at h; cases h
  rw [Below.heap_alloc W o k hk]
  exact h
end Go.Proofs.Ytamgnbjdeoklbaa
