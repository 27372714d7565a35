/- Two books of layer 17 that go their own ways. No condition. -/
import Derived.Test.YtieicfobhgfonaaProg
import Derived.Test.YtieicfobhgfonaaWiMath
import Derived.Test.YtieicfobhgfonaaWiSums
import Derived.Test.YtieicfobhgfonaaWiBox
import Derived.Test.YtieicfobhgfonaaWiCode
import Derived.WalkKit
import Derived.Lib.Hide
namespace Go.Proofs.Ytieicfobhgfonaa.Wi
open Go Go.RowKit
structure Two (w : World) (g b c : Nat) (B C : Bk) : Prop where
  l : BkAt w g b B
  r : BkAt w g c C
  ap : mapOf w b ≠ mapOf w c
  ne : b ≠ c
section
variable {w w' : World} {g b c : Nat} {B C B' C' : Bk}
theorem mapOf_below (h : BkAt w g b B) (hB : Below w.heap.size w w') : mapOf w' b = mapOf w b := by unfold mapOf; rw [hB.block b h.lt]
theorem Two.below (h : Two w g b c B C) (hB : Below w.heap.size w w') : Two w' g b c B C := ⟨h.l.below hB, h.r.below hB, by rw [mapOf_below h.l hB, mapOf_below h.r hB]; exact h.ap, h.ne⟩
theorem Two.fst (h : Two w g b c B C) (hB : BkAt w' g b B') (hk : BkK b w w') : Two w' g b c B' C :=
  have h1 := h.r.other h.l hk (fun e => h.ne e.symm) (fun e => h.ap e.symm)
  ⟨hB, h1.1, fun e => h1.2 e.symm, h.ne⟩
theorem Two.snd (h : Two w g b c B C) (hC : BkAt w' g c C') (hk : BkK c w w') : Two w' g b c B C' :=
  have h1 := h.l.other h.r hk h.ne h.ap
  ⟨h1.1, hC, h1.2, h.ne⟩
theorem two_new {w1 : World} (hb : BkAt w g b B) {bm : Nat} (hm : mapOf w b = some bm) (hB : Below w.heap.size w w1) (hc : BkAt w1 g c C) {cm : Nat} (hcm : mapOf w1 c = some cm) (h1 : w.heap.size ≤ c) (h2 : w.heap.size ≤ cm) : Two w1 g b c B C := by
  obtain ⟨bm', _, hlt, hm', _⟩ := hb.map
  rw [hm] at hm'
  injection hm' with hm'
  refine ⟨hb.below hB, hc, ?_, fun e => by have := hb.lt; omega⟩
  rw [mapOf_below hb hB, hm, hcm]
  intro e
  injection e with e
  omega
theorem two_set {X : Nat} {x : Ac} {i : Nat} (h : Two w g b c B C) (hX : BoxA w X x) (hb : X ≠ b) (hc : X ≠ c) (v : Value) : Two (w.setCell ⟨X, i, none⟩ v) g b c B C := by
  have hO : ∀ k, k ≠ X → (w.setCell ⟨X, i, none⟩ v).heap[k]? = w.heap[k]? := fun k hk => Below.heap_setCell w ⟨X, i, none⟩ v k hk
  have one : ∀ {a : Nat} {A : Bk}, X ≠ a → BkAt w g a A → BkAt (w.setCell ⟨X, i, none⟩ v) g a A ∧ mapOf (w.setCell ⟨X, i, none⟩ v) a = mapOf w a := fun {a A} hn hA => by
    have e1 := hO a (fun e => hn e.symm)
    refine ⟨?_, by unfold mapOf; rw [e1]⟩
    obtain ⟨bm, h1, h2, h3⟩ := hA.has
    refine ⟨hA.gb, bm, h1, e1.trans h2, h3.kept (hO bm (fun e => ?_))⟩
    obtain ⟨es, c, h4, _⟩ := h3
    rw [e] at h4
    unfold BoxA at hX
    rw [hX] at h4
    injection h4 with h4
    cases h4
  exact ⟨(one hb h.l).1, (one hc h.r).1, by rw [(one hb h.l).2, (one hc h.r).2]; exact h.ap, h.ne⟩
theorem init_first {n : Nat} (h : initB B n = (B', 0)) : B'.first = n := by
  rcases init_cases h with ⟨h1, _⟩ | ⟨_, _, _, rfl⟩
  · exact absurd rfl h1
  · rfl
theorem of_open (B : Bk) (k : Nat) : ofR (openB B k).rows k = some B.first := by unfold openB; rw [ofR_put, if_pos rfl]
end
end Go.Proofs.Ytieicfobhgfonaa.Wi
