/- A quiet call behind some draws. No condition. -/
import Derived.Test.YtieicfobhgfonaaProg
import Derived.WalkKit
import Derived.Deep.QuietTactic
import Derived.Deep.Draws
namespace Go.Proofs.Ytieicfobhgfonaa
open Go Go.RowKit
theorem quiet_left {P : Program} {f : FuncId} {args : Array Value} {w : World} {n : Nat} {v : Value}
    (h : Calls P f args (w.drewN n) fun e w' => e = .returned v ∧ w.drewN n = w') : Calls P f args (w.drewN n) fun e w'' => e = .returned v ∧ ∃ m, w'' = w.drewN m :=
  h.mono fun _ _ ⟨he, hm⟩ => ⟨he, n, hm.symm⟩
end Go.Proofs.Ytieicfobhgfonaa
