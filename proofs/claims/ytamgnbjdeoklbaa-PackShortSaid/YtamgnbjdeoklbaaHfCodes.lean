/- The contract of Code: a sign's code and its length. No condition. -/
import Derived.Test.YtamgnbjdeoklbaaProg
import Derived.Test.YtamgnbjdeoklbaaBytes
import Derived.Test.YtamgnbjdeoklbaaHfBook
import Derived.WalkKit
import Derived.Lib.Hide
import Derived.Outline
import Derived.IntWalk
import Derived.WalkSpells
import Derived.WalkLawsBesides
import Derived.Deep.QuietTactic
import Derived.BigQuiet
namespace Go.Proofs.Ytamgnbjdeoklbaa
open Go.RowKit Bytes Hf

namespace Hf
theorem tab_extract (n a b : Nat) (f : Nat → Value) (h : b ≤ n) : (tab n f).extract a b = tab (b - a) (fun i => f (a + i)) := by
  apply Array.ext
  · simp [tab_size]; omega
  · intro i h1 h2
    simp [tab]
/-- The codes of the book. -/
theorem book_codes (w : World) : (Instr.field 148 (.agg (tab 833 bookF)) 0).run Try.prog w = .ok (.agg (tab 514 bookF)) w := by
  have u := Try.underlying148
  have ha : (isAgg 144).run Try.prog w = .ok true w := by kernel_rfl
  have e := tab_extract 833 0 514 bookF (by decide)
  simp only [Nat.zero_add, Nat.sub_zero] at e
  simp [Instr.field, run_underlying u, asAgg, part, ha, e]
theorem codes_at {s : Nat} (h : s < 257) (w : World) : (Instr.index 144 (.agg (tab 514 bookF)) (.int .i64 (s : Int))).run Try.prog w = .ok (.agg #[cu (cd s), ci (len s)]) w := by
  have u := Try.underlying144
  have hs : (sizeOf 143).run Try.prog w = .ok 2 w := by kernel_rfl
  have e := tab_extract 514 (s * 2) (s * 2 + 2) bookF (by omega)
  rw [show s * 2 + 2 - s * 2 = 2 by omega] at e
  have e2 : tab 2 (fun i => bookF (s * 2 + i)) = #[cu (cd s), ci (len s)] := by
    unfold tab
    rw [show List.range 2 = [0, 1] from rfl, List.map_cons, List.map_cons, List.map_nil]
    unfold bookF
    rw [if_pos (show s * 2 + 0 < 514 by omega), if_pos (show (s * 2 + 0) % 2 = 0 by omega), if_pos (show s * 2 + 1 < 514 by omega), if_neg (show ¬ (s * 2 + 1) % 2 = 0 by omega), show (s * 2 + 0) / 2 = s by omega, show (s * 2 + 1) / 2 = s by omega]
  simp [Instr.index, run_underlying u, asIntOf, part, hs, h, e, e2]
theorem cells_new (w : World) (a b : Value) (t : TypeId) : (w.alloc (.cells #[a, b] t)).cell? ⟨w.heap.size, 0, none⟩ = some a ∧ (w.alloc (.cells #[a, b] t)).cell? ⟨w.heap.size, 1, none⟩ = some b := by
  have h := heap_alloc_new w (.cells #[a, b] t)
  exact ⟨cell_of_row _ _ _ _ _ _ h, cell_of_row _ _ _ _ _ _ h⟩
/-- What Code answers. -/
def codeC (b : Int) : Nat := if 0 ≤ b ∧ b ≤ 256 then cd b.toNat else 0
def codeL (b : Int) : Nat := if 0 ≤ b ∧ b ≤ 256 then len b.toNat else 0
end Hf
end Go.Proofs.Ytamgnbjdeoklbaa
