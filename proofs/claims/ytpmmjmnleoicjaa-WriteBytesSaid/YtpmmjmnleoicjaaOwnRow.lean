/- Rows of one's own, of whatever elements, beside a reader's block. No condition. -/
import Derived.Test.YtpmmjmnleoicjaaProg
import Derived.Test.YtpmmjmnleoicjaaBytes
import Derived.Test.YtpmmjmnleoicjaaGrown
import Derived.Test.YtpmmjmnleoicjaaRdr
import Derived.Test.YtpmmjmnleoicjaaKept
import Derived.WalkKit
import Derived.Lib.Hide
namespace Go.Proofs.Ytpmmjmnleoicjaa
open Go Go.RowKit Bytes

section
variable {W W' : World} {r g n q size : Nat} {a s : ByteArray} {p : Int} {k : Nat} {v : Value} {xs : List Value} {e : TypeId}
/-- A block of another type is no row's. -/
theorem row_ne {e2 : TypeId} {cs : Array Value} {fz : Nat × Nat} (h : W.heap[r]? = some (.cells cs e2 fz)) (hv : W.ownsRow g e size v n xs) (he : e ≠ e2) : v.ownBlock = none ∨ v.ownBlock ≠ some r := by
  rcases hv.2 with ⟨rfl, _⟩ | ⟨b, cap, cur, rfl, _, hb, _⟩
  · exact .inl rfl
  · refine .inr fun x => ?_
    injection x with x
    simp only at x
    subst x
    rw [h] at hb
    injection hb with hb
    injection hb with _ hb
    exact he hb.symm
theorem row_rdr (h : RdrAt W r a s p k) (hv : W.ownsRow g e size v n xs) (hg : W.grownBy W' (some r)) (he : e ≠ 91) : W'.ownsRow g e size v n xs := hv.kept hg (row_ne h hv he)
theorem rdr_row {W0 : World} (h : RdrAt W r a s p k) (hv : W.ownsRow g e size v n xs) (hA : Below W.heap.size W W0) (hg : W0.grownBy W' v.ownBlock) (he : e ≠ 91) : RdrAt W' r a s p k := by
  have h0 := h.held hA
  refine (hg.block r h0.lt ?_).trans h0
  rcases row_ne h hv he with e | e
  · rw [e]; intro x; cases x
  · exact fun x => e x.symm
theorem row_below (h : W.ownsRow g e size v n xs) (hB : Below W.heap.size W W') : W'.ownsRow g e size v n xs :=
  h.kept (row := none) ⟨hB.os, hB.tape, hB.output, hB.size, fun k hk _ => hB.block k hk⟩ (by cases v.ownBlock <;> simp)
theorem row_kept (h : W.ownsRow g e size v n xs) (hB : Kept q r W W') (hg : ∀ b, v.ownBlock = some b → b < q ∧ b ≠ r) : W'.ownsRow g e size v n xs := by
  refine ⟨h.1, ?_⟩
  rcases h.2 with hn | ⟨b, cap, cur, rfl, hb, hgg, rest⟩
  · exact .inl hn
  · have := hg b rfl
    exact .inr ⟨b, cap, cur, rfl, hb, (hB.block b this.1 this.2).trans hgg, rest⟩
theorem row_low {g' : Nat} (h : W.ownsRow g e size v n xs) (hb : g' ≤ g) : W.ownsRow g' e size v n xs := by
  refine ⟨h.1, ?_⟩
  rcases h.2 with h0 | ⟨b, cap, cur, hv, hg, r⟩
  · exact Or.inl h0
  · exact Or.inr ⟨b, cap, cur, hv, by omega, r⟩
/-- A row's value is one cell. -/
theorem own_one (h : W.ownsRow g e size v n xs) : v.oneCell' = true := by
  rcases h.2 with ⟨rfl, _⟩ | ⟨b, cap, cur, rfl, _⟩ <;> rfl
theorem row_slice (h : W.ownsRow g e size v n xs) : ∃ A m c, v = .slice A m c := by
  rcases h.2 with ⟨rfl, _⟩ | ⟨b, cap, cur, rfl, _⟩
  · exact ⟨_, _, _, rfl⟩
  · exact ⟨_, _, _, rfl⟩
/-- Two rows of unlike elements: one stays while the other is written. -/
theorem row_row {W0 : World} {e2 : TypeId} {size2 n2 : Nat} {v2 : Value} {xs2 : List Value} (h : W.ownsRow g e size v n xs) (h2 : W.ownsRow q e2 size2 v2 n2 xs2) (he : e2 ≠ e) (hA : Below W.heap.size W W0) (hg : W0.grownBy W' v2.ownBlock) : W'.ownsRow g e size v n xs := by
  refine (row_below h hA).kept hg ?_
  rcases h.2 with ⟨rfl, _⟩ | ⟨b, cap, cur, rfl, _, hb, _⟩
  · exact .inl rfl
  · refine .inr fun x => ?_
    rcases row_ne hb h2 he with y | y
    · rw [y] at x; cases x
    · exact y x.symm
end
end Go.Proofs.Ytpmmjmnleoicjaa
