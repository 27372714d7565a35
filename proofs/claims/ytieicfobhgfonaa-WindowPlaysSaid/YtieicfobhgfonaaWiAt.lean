/- The code's books of layer 17 as they lie in memory: BkAt (a book in a block), BkK (a call's frame), mapOf. -/
import Derived.Test.YtieicfobhgfonaaProg
import Derived.Test.YtieicfobhgfonaaMpFun
import Derived.Test.YtieicfobhgfonaaWiMath
import Derived.WalkKit
import Derived.Lib.Hide
namespace Go.Proofs.Ytieicfobhgfonaa
open Go Go.RowKit Go.MapKept Mp Wi

namespace Wi
/-- A list of windows as a function of keys as they lie in memory. -/
def liftR (l : List (Nat × Int)) : Value → Option Value
  | .int .u32 k => if 0 ≤ k then (ofR l k.toNat).map (Value.int .i64) else none
  | _ => none
def mapBlk : Value → Option Nat
  | .map m => m
  | _ => none
/-- The block of a book's map. -/
def mapOf (w : World) (b : Nat) : Option Nat :=
  match w.heap[b]? with
  | some (.cells c _ _) => (c[2]?).bind mapBlk
  | _ => none
/-- A book in block b, from block g on. -/
structure BkAt (w : World) (g b : Nat) (B : Bk) : Prop where
  gb : g ≤ b
  has : ∃ bm, g ≤ bm ∧ w.heap[b]? = some (.cells #[.int .i64 B.conn, .int .i64 B.first, .map (some bm)] 47 (0, 0)) ∧ MapF w bm (.int .u32) (liftR B.rows)
/-- Its block and its map's alone may have turned. -/
structure BkK (b : Nat) (w w' : World) : Prop where
  os : w'.os = w.os
  tape : w'.tape = w.tape
  output : w'.output = w.output
  size : w.heap.size ≤ w'.heap.size
  block : ∀ k, k < w.heap.size → k ≠ b → mapOf w b ≠ some k → w'.heap[k]? = w.heap[k]?
  same : mapOf w' b = mapOf w b
theorem BkAt.map {w : World} {g b : Nat} {B : Bk} (h : BkAt w g b B) : ∃ bm, g ≤ bm ∧ bm < w.heap.size ∧ mapOf w b = some bm ∧ ∃ es c, w.heap[bm]? = some (.map es c) := by
  obtain ⟨bm, h1, h2, h3⟩ := h.has
  refine ⟨bm, h1, h3.lt, ?_, ?_⟩
  · unfold mapOf; rw [h2]; rfl
  · obtain ⟨es, c, h4, _⟩ := h3; exact ⟨es, c, h4⟩
theorem BkAt.lt {w : World} {g b : Nat} {B : Bk} (h : BkAt w g b B) : b < w.heap.size := by
  obtain ⟨bm, h1, h2, h3⟩ := h.has
  rcases Nat.lt_or_ge b w.heap.size with h4 | h4
  · exact h4
  · rw [Array.getElem?_eq_none h4] at h2; cases h2
theorem BkAt.below {w w' : World} {g b : Nat} {B : Bk} (h : BkAt w g b B) (hB : Below w.heap.size w w') : BkAt w' g b B := by
  have hl := h.lt
  obtain ⟨bm, h1, h2, h3⟩ := h.has
  exact ⟨h.gb, bm, h1, (hB.block b hl).trans h2, h3.kept (hB.block bm h3.lt)⟩
theorem BkK.below {w w' : World} {g b : Nat} {B : Bk} (h : BkK b w w') (hb : BkAt w g b B) : Below g w w' := by
  obtain ⟨bm, h1, _, h2, _⟩ := hb.map
  exact ⟨h.os, h.tape, h.output, h.size, fun k hk => h.block k (by have := hb.lt; have := hb.gb; omega) (by have := hb.gb; omega) (fun e => by rw [h2] at e; injection e with e; omega)⟩
theorem BkAt.lower {w : World} {g g' b : Nat} {B : Bk} (h : BkAt w g b B) (hg : g' ≤ g) : BkAt w g' b B := by
  obtain ⟨bm, h1, h2⟩ := h.has
  exact ⟨Nat.le_trans hg h.gb, bm, Nat.le_trans hg h1, h2⟩
/-- What is no map and not its block stands. -/
theorem BkK.box {w w' : World} {g b : Nat} {B : Bk} (h : BkK b w w') (hb : BkAt w g b B) {X : Nat} {cs : Array Value} {T : TypeId} {fz : Nat × Nat} (hX : w.heap[X]? = some (.cells cs T fz)) (hn : X ≠ b) : w'.heap[X]? = w.heap[X]? := by
  obtain ⟨bm, h1, h2, h3, es, c, h4⟩ := hb.map
  refine h.block X ?_ hn (fun e => ?_)
  · rcases Nat.lt_or_ge X w.heap.size with h5 | h5
    · exact h5
    · rw [Array.getElem?_eq_none h5] at hX; cases hX
  · rw [h3] at e
    injection e with e
    rw [e] at h4
    rw [h4] at hX
    injection hX with hX
    cases hX
/-- Another book stands. -/
theorem BkAt.other {w w' : World} {g a b : Nat} {A B : Bk} (hA : BkAt w g a A) (hB : BkAt w g b B) (hk : BkK b w w') (hn : a ≠ b) (hap : mapOf w a ≠ mapOf w b) : BkAt w' g a A ∧ mapOf w' a ≠ mapOf w' b := by
  have hla := hA.lt
  obtain ⟨bm, hb1, hb2, hb3, es, c, hb4⟩ := hB.map
  obtain ⟨bmb, k1, k2, k3⟩ := hB.has
  obtain ⟨am, h1, h2, h3⟩ := hA.has
  have hma : mapOf w a = some am := by unfold mapOf; rw [h2]; rfl
  have e1 : w'.heap[a]? = w.heap[a]? := hk.block a hla hn (fun e => by
    rw [hb3] at e
    injection e with e
    rw [e] at hb4
    rw [h2] at hb4
    injection hb4 with hb4
    cases hb4)
  have e2 : w'.heap[am]? = w.heap[am]? := hk.block am h3.lt (fun e => by
    obtain ⟨es2, c2, h5, _⟩ := h3
    rw [e, k2] at h5
    injection h5 with h5
    cases h5) (fun e => hap (hma.trans e.symm))
  refine ⟨⟨hA.gb, am, h1, e1.trans h2, h3.kept e2⟩, ?_⟩
  rw [hk.same]
  intro e
  refine hap ?_
  rw [← e]
  unfold mapOf
  rw [e1]
end Wi
end Go.Proofs.Ytieicfobhgfonaa
