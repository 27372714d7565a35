/- Tables that can be gone through. No program. -/
import Derived.Test.YtamgnbjdeoklbaaProg
import Derived.Test.YtamgnbjdeoklbaaTbMath
namespace Go.Proofs.Ytamgnbjdeoklbaa.Tb


/-- Entries of short texts. -/
def SmallE (L : List Ent) : Prop := ∀ e ∈ L, e.1.size ≤ 1000000 ∧ e.2.size ≤ 1000000
/-- It can be gone through. -/
def Fit (t : Tab) : Prop := t.2.length ≤ 1000 ∧ SmallE t.2 ∧ sumL t.2 ≤ 1000000000
end Go.Proofs.Ytamgnbjdeoklbaa.Tb
