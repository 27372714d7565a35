/- Below a block, one block apart, a world is as it was. No condition. -/
import Derived.Test.YtpmmjmnleoicjaaProg
import Derived.Test.YtpmmjmnleoicjaaBytes
import Derived.Test.YtpmmjmnleoicjaaGrown
import Derived.Test.YtpmmjmnleoicjaaRdr
import Derived.WalkKit
import Derived.Lib.Hide
namespace Go.Proofs.Ytpmmjmnleoicjaa
open Go Go.RowKit Bytes

/-- Below block g, block r apart, the world b is as a was. -/
structure Kept (g r : Nat) (a b : World) : Prop where
  os : b.os = a.os
  tape : b.tape = a.tape
  output : b.output = a.output
  size : a.heap.size ≤ b.heap.size
  block : ∀ k, k < g → k ≠ r → b.heap[k]? = a.heap[k]?
section
variable {g g' r q : Nat} {a b c w w' : World}
theorem Kept.refl (g r : Nat) (a : World) : Kept g r a a := ⟨rfl, rfl, rfl, Nat.le_refl _, fun _ _ _ => rfl⟩
theorem Kept.trans (h : Kept g r a b) (k : Kept g r b c) : Kept g r a c :=
  ⟨k.os.trans h.os, k.tape.trans h.tape, k.output.trans h.output, Nat.le_trans h.size k.size, fun i hi hne => (k.block i hi hne).trans (h.block i hi hne)⟩
theorem Kept.mono (h : Kept g r a b) (hg : g' ≤ g) : Kept g' r a b := ⟨h.os, h.tape, h.output, h.size, fun i hi hne => h.block i (by omega) hne⟩
theorem Kept.grown (h : Kept g r a w) (hg : w.grownBy w' (some r)) (hB : g ≤ w.heap.size) : Kept g r a w' :=
  h.trans ⟨hg.os, hg.tape, hg.output, hg.size, fun i hi hne => hg.block i (by omega) (by intro e; injection e with e; exact hne e)⟩
theorem Kept.below (h : Kept g r a w) (hb : Below g w w') : Kept g r a w' := h.trans ⟨hb.os, hb.tape, hb.output, hb.size, fun i hi _ => hb.block i hi⟩
theorem Kept.own (h : Kept g r a w) {row : Option Nat} (hg : w.grownBy w' row) (hB : g ≤ w.heap.size) (hr : ∀ k, row = some k → g ≤ k) : Kept g r a w' :=
  h.below ((Below.refl g w).grown hg hB hr)
theorem Kept.alloc (h : Kept g r a w) (hB : g ≤ w.heap.size) (o : Obj) : Kept g r a (w.alloc o) := h.below ((Below.refl g w).alloc hB o)
theorem Kept.drewN (h : Kept g r a w) (n : Nat) : Kept g r a (w.drewN n) := ⟨h.os, h.tape, h.output, h.size, h.block⟩
theorem Kept.drew (h : Kept g r a w) : Kept g r a w.drew := ⟨h.os, h.tape, h.output, h.size, h.block⟩
theorem Kept.setCell (h : Kept g r a w) {p : Addr} (hp : p.block = r ∨ g ≤ p.block) (u : Value) : Kept g r a (w.setCell p u) :=
  h.trans ⟨rfl, rfl, rfl, by simp [World.setCell], fun i hi hne => Below.heap_setCell w p u i (by rcases hp with hp | hp <;> omega)⟩
theorem Kept.of_grown (h : a.grownBy b (some r)) (hB : g ≤ a.heap.size) : Kept g r a b := (Kept.refl g r a).grown h hB
theorem Kept.to_grown (h : Kept a.heap.size r a b) : a.grownBy b (some r) := ⟨h.os, h.tape, h.output, h.size, fun k hk hne => h.block k hk (fun e => hne (by rw [e]))⟩
theorem Kept.to_below (h : Kept g r a b) (hr : g ≤ r) : Below g a b := ⟨h.os, h.tape, h.output, h.size, fun k hk => h.block k hk (by omega)⟩
/-- What was written is a block that is new. -/
theorem Kept.new (h : Kept g r a b) (k : Kept g q b c) (hq : g ≤ q) : Kept g r a c := h.below (k.to_below hq)
end
theorem kept_grown {w w' : World} {g r : Nat} (h : Kept g r w w') (hg : w.heap.size = g) : w.grownBy w' (some r) := by
  subst hg
  exact h.to_grown
section
variable {W W' : World} {r g n q : Nat} {a s : ByteArray} {p : Int} {k : Nat} {v : Value} {xs : List Value}
/-- A reader's block is no row of bytes. -/
theorem own_ne (h : RdrAt W r a s p k) (hv : W.ownsRow g 5 1 v n xs) : v.ownBlock = none ∨ v.ownBlock ≠ some r := by
  rcases hv.2 with ⟨rfl, _⟩ | ⟨b, cap, cur, rfl, _, hb, _⟩
  · exact .inl rfl
  · refine .inr fun e => ?_
    injection e with e
    simp only at e
    subst e
    unfold RdrAt at h
    rw [h] at hb
    injection hb with hb
    injection hb with _ hb
    exact absurd hb (by decide)
/-- A row of one's own, behind the reader's writing. -/
theorem own_rdr (h : RdrAt W r a s p k) (hv : W.ownsRow g 5 1 v n xs) (hg : W.grownBy W' (some r)) : W'.ownsRow g 5 1 v n xs := hv.kept hg (own_ne h hv)
/-- The reader, behind an append to a row of one's own. -/
theorem rdr_own {W0 : World} (h : RdrAt W r a s p k) (hv : W.ownsRow g 5 1 v n xs) (hA : Below W.heap.size W W0) (hg : W0.grownBy W' v.ownBlock) : RdrAt W' r a s p k := by
  have h0 := h.held hA
  refine (hg.block r h0.lt ?_).trans h0
  rcases own_ne h hv with e | e
  · rw [e]; intro x; cases x
  · exact fun x => e x.symm
theorem RdrAt.kept (h : RdrAt W q a s p k) (hk : Kept g r W W') (hq : q < g) (hne : q ≠ r) : RdrAt W' q a s p k := (hk.block q hq hne).trans h
end
end Go.Proofs.Ytpmmjmnleoicjaa
