/- A row of bytes of one's own: its text; read as one that came in. No condition. -/
import Derived.Test.YteddepmiejlemaaProg
import Derived.Test.YteddepmiejlemaaBytes
import Derived.Test.YteddepmiejlemaaNumBe
import Derived.Test.YteddepmiejlemaaNumPut
import Derived.Test.YteddepmiejlemaaFrMath
import Derived.WalkKit
import Derived.Lib.Hide
import Derived.Laws.Rows
import Derived.Outline
import Derived.IntWalk
import Derived.WalkSpells
import Derived.WalkLawsBesides
import Derived.Deep.CutRange
namespace Go.Proofs.Yteddepmiejlemaa
open Go Go.RowKit Bytes Fr

namespace Fr
theorem lib_cells (l : List UInt8) : Lib.byteCells l = Bytes.byteCells l := rfl
/-- The text of a row that Put laid. -/
theorem conv_row {W : World} {g n : Nat} {l : List UInt8} (h : W.heap[g]? = some (.cells (Lib.byteCells l).toArray 5 (0, 0))) (hn : l.length = n) :
    (convert 57 9 (.slice (some ⟨g, 0, none⟩) n n)).run Try.prog W = .ok (.string (mk l)) W := by
  subst hn
  refine run_convert_bytes_back _ _ _ 5 ⟨g, 0, none⟩ l.length l Try.underlying57 Try.underlying5 Try.underlying9 (fun j hj => ?_)
  rw [show ((⟨g, 0, none⟩ : Addr).add j) = ⟨g, j, none⟩ from by unfold Addr.add; split <;> simp_all]
  rw [Lib.cell_of_heap h, ← Array.getElem?_toList]
  simp [Lib.byteCells, hj]
/-- A row of bytes that came in, of one's own. -/
theorem rdB_row {W : World} {g B : Nat} {l : List UInt8} {cs : Array Value} {fz : Nat × Nat} (h : W.heap[g]? = some (.cells cs 5 fz)) (hc : cs.toList = Lib.byteCells l) (hB : g < B) : RdB W B (some ⟨g, 0, none⟩) l := by
  intro _
  refine ⟨⟨g, 0, none⟩, rfl, hB, fun i v hv => ?_⟩
  rw [show ((⟨g, 0, none⟩ : Addr).add i) = ⟨g, i, none⟩ from by unfold Addr.add; split <;> simp_all]
  rw [Lib.cell_of_heap h, ← Array.getElem?_toList, hc]
  exact hv
end Fr
end Go.Proofs.Yteddepmiejlemaa
