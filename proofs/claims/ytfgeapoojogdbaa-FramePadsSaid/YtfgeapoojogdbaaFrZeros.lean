/- A row of zeros, and the text that it becomes; a box whose payload is set anew. -/
import Derived.Test.YtfgeapoojogdbaaProg
import Derived.Test.YtfgeapoojogdbaaBytes
import Derived.Test.YtfgeapoojogdbaaFrMath
import Derived.Test.YtfgeapoojogdbaaFrRef
import Derived.Laws.MakeOwn
import Derived.Laws.OwnMore
import Derived.Laws.Rows
import Derived.WalkKit
import Derived.Orders
import Derived.RegionTactic
namespace Go.Proofs.Ytfgeapoojogdbaa.Fr
open Go Go.RowKit Bytes

def ZerosO (m : Nat) : Obj := .cells (madeCells #[.int .u8 0] m) 5
def zerosT (m : Nat) : ByteArray := mk (List.replicate m 0)
theorem make_zeros (m : Nat) (hm : m ≤ 255) (W : World) : (Instr.makeSlice 52 (.int .u8 (m : Int)) (.int .u8 (m : Int))).run Try.prog W = .ok (.slice (some ⟨W.heap.size, 0, none⟩) m m) (W.alloc (ZerosO m)) := by
  obtain ⟨i0, hi, hz0, hz1, hz2⟩ := info_parts info5
  have h := run_make (P := Try.prog) W 52 5 i0 (.int .u8 0) Try.underlying52 hi hz0 .u8 .u8 (m : Int) (m : Int) (by omega) (by omega) (by rw [hz2]; omega) (by omega)
  rw [hz1] at h
  unfold ZerosO
  rw [show (#[.int .u8 0] : Array Value) = (Value.int .u8 0).cells from rfl]
  simpa using h
theorem conv_zeros (m : Nat) (W : World) : (convert 52 9 (.slice (some ⟨W.heap.size, 0, none⟩) m m)).run Try.prog (W.alloc (ZerosO m)) = .ok (.string (zerosT m)) (W.alloc (ZerosO m)) :=
  conv_new W (List.replicate m 0) _ m (by rw [toList_madeCells_one]; simp [byteCells]) (List.length_replicate ..)
theorem BoxF.set {w : World} {X : Nat} {f : Frm} (h : BoxF w X f) (d : ByteArray) : BoxF (w.setCell ⟨X, 3, none⟩ (.string d)) X ⟨f.ty, f.fl, f.st, d⟩ := by
  unfold BoxF
  rw [heap_setCell_same _ _ _ _ _ _ h]
  rfl
theorem BoxF.free {w : World} {X : Nat} {f : Frm} (h : BoxF w X f) : w.frozen? ⟨X, 3, none⟩ = false := by
  unfold BoxF at h
  simp [World.frozen?, h]
/-- What stands ahead of the data: without a priority, or with one. -/
def PadsOf (q : Bool) (fl : Nat) (p pb q4 : ByteArray) : Prop := (q = false ∧ fl = 8 ∧ p = pb) ∨ (q = true ∧ fl = 40 ∧ p = pb ++ q4 ++ ⟨#[7]⟩)
theorem BoxF.frz {w : World} {X : Nat} {f : Frm} (h : BoxF w X f) (i : Nat) : w.frozen? ⟨X, i, none⟩ = false := by
  unfold BoxF at h
  simp [World.frozen?, h]
theorem BoxF.setfl {w : World} {X : Nat} {f : Frm} (h : BoxF w X f) (n : Nat) : BoxF (w.setCell ⟨X, 1, none⟩ (.int .u8 (n : Int))) X ⟨f.ty, n, f.st, f.data⟩ := by
  unfold BoxF
  rw [heap_setCell_same _ _ _ _ _ _ h]
  rfl
/-- The text of a row of bytes, wherever it lies. -/
theorem conv_any {W : World} {g n : Nat} {l : List UInt8} {cs : Array Value} {fz : Nat × Nat} (h : W.heap[g]? = some (.cells cs 5 fz)) (hc : cs.toList = byteCells l) (hn : l.length = n) :
    (convert 52 9 (.slice (some ⟨g, 0, none⟩) n n)).run Try.prog W = .ok (.string (mk l)) W := by
  subst hn
  refine run_convert_bytes_back _ _ _ 5 ⟨g, 0, none⟩ l.length l Try.underlying52 Try.underlying5 Try.underlying9 (fun j hj => ?_)
  rw [show ((⟨g, 0, none⟩ : Addr).add j) = ⟨g, j, none⟩ from by unfold Addr.add; split <;> simp_all]
  rw [Lib.cell_of_heap h, ← Array.getElem?_toList, hc]
  simp [byteCells, hj]
section
variable {P : Program} {ops : Array Oper} {Q : Exit → Act → World → Prop} {md : Region.Mode}
/-- An operation that yields in whatever world is taken first; what it yields is laid. -/
theorem take_at {i d : Nat} {oi : Oper} {v : Value} {fuel : Nat} {listed : Array Bool} {a : Act} {w : World} (hi : ops[i]? = some oi) (hd : oi.dst = some d)
    (hs : Region.noSelect ops = true) (hf : Region.free md ops listed i = true) (hr : (Region.ready md ops listed).contains i = true)
    (hQ : ∀ c a w, Q (.panic c) (a.put oi.dst v) w → Q (.panic c) a w) (hw : Region.wanted oi (yielded ops a.tmps) = true) (hy : ∀ w, (execOp a.eval oi).run P w = .ok (.value v) w)
    (h : wpAny P md ops Q fuel (listed.setIfInBounds i true) { a with tmps := a.tmps.setIfInBounds d v } w) : wpAny P md ops Q (fuel + 1) listed a w := by
  refine wpAny_take hi hs hf hr hQ (.inl ⟨hw, hy⟩) ?_
  rw [hd]
  exact h
end
end Go.Proofs.Ytfgeapoojogdbaa.Fr
