/- Frames held against one another: the same. No condition. -/
import Derived.Test.YtekcipmhljhelaaProg
import Derived.Test.YtekcipmhljhelaaFrMath
import Derived.Test.YtekcipmhljhelaaFrBox
import Derived.WalkKit
import Derived.LaidEql
namespace Go.Proofs.Ytekcipmhljhelaa
open Go Go.RowKit Fr

theorem eq_u8 (d : Nat) (a : Int) (w : World) : (Op.equalIn (d + 1) 5 (.int .u8 a) (.int .u8 a)).run Try.prog w = .ok true w := by simp [Op.equalIn, run_underlying Try.underlying5]
theorem eq_u32 (d : Nat) (a : Int) (w : World) : (Op.equalIn (d + 1) 28 (.int .u32 a) (.int .u32 a)).run Try.prog w = .ok true w := by simp [Op.equalIn, run_underlying Try.underlying28]
theorem eq_str (d : Nat) (s : ByteArray) (w : World) : (Op.equalIn (d + 1) 9 (.string s) (.string s)).run Try.prog w = .ok true w := by
  have h : (s == s) = true := by
    first
      | exact beq_self_eq_true s
      | (obtain ⟨a⟩ := s; exact beq_self_eq_true a)
      | (show (s.data == s.data) = true; exact beq_self_eq_true _)
      | (simp [BEq.beq]; done)
  simp [Op.equalIn, run_underlying Try.underlying9, h]
theorem frm_in (d : Nat) (a b c : Int) (s : ByteArray) (w : World) : (Op.equalIn (d + 2) 40 (.agg #[.int .u8 a, .int .u8 b, .int .u32 c, .string s]) (.agg #[.int .u8 a, .int .u8 b, .int .u32 c, .string s])).run Try.prog w = .ok true w := by
  have hst : Try.prog.stoodInHeld 40 = false := by kernel_rfl
  rw [Op.equalIn]
  simp [run_underlying Try.underlying40, hst, part, eq_u8, eq_u32, eq_str]
theorem frm_same (f : Frm) (w : World) : (binOp .eql 40 (.agg #[.int .u8 (f.ty : Int), .int .u8 (f.fl : Int), .int .u32 (f.st : Int), .string f.data]) (.agg #[.int .u8 (f.ty : Int), .int .u8 (f.fl : Int), .int .u32 (f.st : Int), .string f.data])).run Try.prog w = .ok (.bool true) w := by
  simp [binOp, Op.equal, Op.maxDepth, frm_in 9998]
theorem frm_same' (f : Frm) (w : World) : (binOp .neq 40 (.agg #[.int .u8 (f.ty : Int), .int .u8 (f.fl : Int), .int .u32 (f.st : Int), .string f.data]) (.agg #[.int .u8 (f.ty : Int), .int .u8 (f.fl : Int), .int .u32 (f.st : Int), .string f.data])).run Try.prog w = .ok (.bool false) w := by
  simp [binOp, Op.equal, Op.maxDepth, frm_in 9998]
end Go.Proofs.Ytekcipmhljhelaa
