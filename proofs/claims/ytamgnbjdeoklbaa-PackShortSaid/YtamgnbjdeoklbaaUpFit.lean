/- A table of 4096 at most can be gone through. No program. -/
import Derived.Test.YtamgnbjdeoklbaaProg
import Derived.Test.YtamgnbjdeoklbaaTbMath
import Derived.Test.YtamgnbjdeoklbaaTcFit
import Derived.Test.YtamgnbjdeoklbaaUpMath
namespace Go.Proofs.Ytamgnbjdeoklbaa
open Go.RowKit Tb Up

theorem Ok4.fit {t : Tab} (h : Up.Ok4 t) : Fit t := by
  have h1 := h.1
  have h2 := h.2
  unfold OkT at h2
  have h3 := sumL_ge t.2
  refine ⟨by omega, fun e he => ?_, by omega⟩
  have h4 : sz e ≤ sumL t.2 := by
    obtain ⟨a, b, hab⟩ := List.append_of_mem he
    rw [hab, sumL_cat, sumL]
    omega
  unfold sz at h4
  omega
end Go.Proofs.Ytamgnbjdeoklbaa
