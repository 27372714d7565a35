/- A frame as a value. No program. -/
import Derived.Test.YteddepmiejlemaaProg
import Derived.Test.YteddepmiejlemaaFrMath
namespace Go.Proofs.Yteddepmiejlemaa
open Go Fr
/-- A frame as a value. -/
def frV (f : Frm) : Value := .agg #[.int .u8 (f.ty : Int), .int .u8 (f.fl : Int), .int .u32 (f.st : Int), .string f.data]
end Go.Proofs.Yteddepmiejlemaa
