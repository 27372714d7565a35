/- The program's values of layer 16 held against themselves. No condition. -/
import Derived.Test.YteddepmiejlemaaProg
import Derived.Test.YteddepmiejlemaaSeMath
import Derived.Test.YteddepmiejlemaaSeSame
import Derived.WalkKit
import Derived.LaidEql
namespace Go.Proofs.Yteddepmiejlemaa
open Go Go.RowKit Se

theorem s_bool (d : Nat) (a : Bool) (w : World) : (Op.equalIn (d + 1) 4 (.bool a) (.bool a)).run Try.prog w = .ok true w := by simp [Op.equalIn, run_underlying Try.underlying4]
theorem val_in (d : Nat) (a b c e f : Int) (p : Bool) (w : World) : (Op.equalIn (d + 2) 26 (.agg #[.int .u32 a, .int .u32 b, .int .u32 c, .int .u32 e, .int .u32 f, .bool p]) (.agg #[.int .u32 a, .int .u32 b, .int .u32 c, .int .u32 e, .int .u32 f, .bool p])).run Try.prog w = .ok true w := by
  have hst : Try.prog.stoodInHeld 26 = false := by kernel_rfl
  rw [Op.equalIn]
  simp [run_underlying Try.underlying26, hst, part, s_u32, s_bool]
theorem val_same (v : Vals) (w : World) : (binOp .eql 26 (valV v) (valV v)).run Try.prog w = .ok (.bool true) w := by
  unfold valV
  simp [binOp, Op.equal, Op.maxDepth, val_in 9998]
theorem val_same' (v : Vals) (w : World) : (binOp .neq 26 (valV v) (valV v)).run Try.prog w = .ok (.bool false) w := by
  unfold valV
  simp [binOp, Op.equal, Op.maxDepth, val_in 9998]
end Go.Proofs.Yteddepmiejlemaa
