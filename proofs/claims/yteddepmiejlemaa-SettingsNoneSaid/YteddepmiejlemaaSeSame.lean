/- The law's same of layer 16, of the program's values and the document's; the values as the program has them (the order of the fields is the program's). No condition. -/
import Derived.Test.YteddepmiejlemaaProg
import Derived.Test.YteddepmiejlemaaFrFrame
import Derived.Test.YteddepmiejlemaaSeMath
import Derived.Test.YteddepmiejlemaaSeRef
import Derived.WalkKit
import Derived.Lib.Hide
import Derived.Laws.Rows
import Derived.Outline
import Derived.IntWalk
import Derived.WalkSpells
import Derived.WalkLawsBesides
import Derived.LoopTactic
import Derived.Deep.QuietTactic
import Derived.BigQuiet
import Derived.Deep.CutRange
namespace Go.Proofs.Yteddepmiejlemaa
open Go Go.RowKit Se Fr

namespace Se
/-- The program's values. -/
def valV (v : Vals) : Value := .agg #[.int .u32 (v.table : Int), .int .u32 (v.streams : Int), .int .u32 (v.window : Int), .int .u32 (v.frame : Int), .int .u32 (v.list : Int), .bool v.push]
end Se

theorem s_u32 (d : Nat) (a : Int) (w : World) : (Op.equalIn (d + 1) 24 (.int .u32 a) (.int .u32 a)).run Try.prog w = .ok true w := by simp [Op.equalIn, run_underlying Try.underlying24]
theorem arr_in (d : Nat) (a b c e f g h : Int) (w : World) : (Op.equalIn (d + 2) 30 (.agg #[.int .u32 a, .int .u32 b, .int .u32 c, .int .u32 e, .int .u32 f, .int .u32 g, .int .u32 h]) (.agg #[.int .u32 a, .int .u32 b, .int .u32 c, .int .u32 e, .int .u32 f, .int .u32 g, .int .u32 h])).run Try.prog w = .ok true w := by
  rw [Op.equalIn]
  simp [run_underlying Try.underlying30, part, s_u32, Std.Legacy.Range.forIn_eq_forIn_range', Std.Legacy.Range.size, List.range']

set_option maxHeartbeats 8000000 in
set_option maxRecDepth 100000 in
theorem ssame_is (v : Vals) (w : World) : Calls Try.prog 13 #[valV v, refV v] w fun e w' => e = .returned (.bool true) ∧ Below w.heap.size w w' := by
  have HB := Lib.hid (fun o o2 : Obj => ((Below.refl _ w).alloc (Nat.le_refl _) o).alloc (by simp) o2)
  obtain ⟨t, st, wi, fr, li, p⟩ := v
  cases p
  · unfold valV refV rCs pushN
    go_enter Try.func13, Try.ntmps13
    go_wp2_with (simp only [arr_in 9998])
    go_ret
    exact ⟨rfl, HB.out _ _⟩
  · show Calls Try.prog 13 #[.agg #[.int .u32 (t : Int), .int .u32 (st : Int), .int .u32 (wi : Int), .int .u32 (fr : Int), .int .u32 (li : Int), .bool true], .agg #[.int .u32 0, .int .u32 (t : Int), .int .u32 1, .int .u32 (st : Int), .int .u32 (wi : Int), .int .u32 (fr : Int), .int .u32 (li : Int)]] w _
    go_enter Try.func13, Try.ntmps13
    go_wp2_with (simp only [arr_in 9998])
    simp only [Result.andThen]
    go_wp2_with fail
    go_ret
    exact ⟨rfl, HB.out _ _⟩
end Go.Proofs.Yteddepmiejlemaa
