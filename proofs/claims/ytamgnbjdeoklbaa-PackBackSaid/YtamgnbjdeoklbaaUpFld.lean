/- The contracts of a header block's reader: a size of the table, a field. For blocks of at most 10^6 bytes. -/
import Derived.Test.YtamgnbjdeoklbaaProg
import Derived.Test.YtamgnbjdeoklbaaBytes
import Derived.Test.YtamgnbjdeoklbaaGrown
import Derived.Test.YtamgnbjdeoklbaaTcAt
import Derived.Test.YtamgnbjdeoklbaaUpMath
import Derived.Test.YtamgnbjdeoklbaaUpRdr
import Derived.Test.YtamgnbjdeoklbaaUpTxt
import Derived.Test.YtamgnbjdeoklbaaUpEnt
import Derived.Test.YtamgnbjdeoklbaaUpSpelt
import Derived.WalkKit
import Derived.Lib.Hide
import Derived.Laws.Rows
import Derived.Outline
import Derived.IntWalk
import Derived.WalkSpells
import Derived.WalkLawsBesides
import Derived.Deep.QuietTactic
import Derived.BigQuiet
import Derived.Deep.RegionHeld3
import Derived.Deep.Draws
namespace Go.Proofs.Ytamgnbjdeoklbaa
open Go.RowKit Bytes Tb Up

/-- All blocks but three lie as they lay. -/
structure Kept3 (r g b : Nat) (w w' : World) : Prop where
  os : w'.os = w.os
  tape : w'.tape = w.tape
  output : w'.output = w.output
  size : w.heap.size ≤ w'.heap.size
  block : ∀ k, k < w.heap.size → k ≠ r → k ≠ g → k ≠ b → w'.heap[k]? = w.heap[k]?
section
variable {r g b b' : Nat} {w w1 w2 : World}
theorem Kept3.refl (r g b : Nat) (w : World) : Kept3 r g b w w := ⟨rfl, rfl, rfl, Nat.le_refl _, fun _ _ _ _ _ => rfl⟩
theorem Kept3.trans (h : Kept3 r g b w w1) (k : Kept3 r g b' w1 w2) (hb : b' = b ∨ b' = g ∨ w.heap.size ≤ b') : Kept3 r g b w w2 :=
  ⟨k.os.trans h.os, k.tape.trans h.tape, k.output.trans h.output, Nat.le_trans h.size k.size, fun i hi h0 h1 h2 =>
    (k.block i (Nat.lt_of_lt_of_le hi h.size) h0 h1 (by rcases hb with rfl | rfl | hb; exact h2; exact h1; omega)).trans (h.block i hi h0 h1 h2)⟩
theorem Kept3.of_grown (h : w.grownBy w1 (some r)) : Kept3 r g b w w1 := ⟨h.os, h.tape, h.output, h.size, fun _ hi h0 _ _ => grown_block h hi h0⟩
theorem Kept3.of_kept2 (h : Kept2 g b w w1) : Kept3 r g b w w1 := ⟨h.os, h.tape, h.output, h.size, fun i hi _ h1 h2 => h.block i hi h1 h2⟩
theorem Kept3.of_below (h : Below w.heap.size w w1) : Kept3 r g b w w1 := ⟨h.os, h.tape, h.output, h.size, fun i hi _ _ _ => h.block i hi⟩
theorem Kept3.setCell (h : Kept3 r g b w w1) {p : Addr} (hp : w.heap.size ≤ p.block) (u : Value) : Kept3 r g b w (w1.setCell p u) :=
  ⟨h.os, h.tape, h.output, Nat.le_trans h.size (by simp), fun i hi h0 h1 h2 => (Below.heap_setCell w1 p u i (by omega)).trans (h.block i hi h0 h1 h2)⟩
theorem Kept3.alloc (h : Kept3 r g b w w1) (o : Obj) : Kept3 r g b w (w1.alloc o) :=
  ⟨h.os, h.tape, h.output, Nat.le_trans h.size (by simp), fun i hi h0 h1 h2 => (Below.heap_alloc w1 o i (Nat.lt_of_lt_of_le hi h.size)).trans (h.block i hi h0 h1 h2)⟩
theorem Kept3.drewN (h : Kept3 r g b w w1) (q : Nat) : Kept3 r g b w (w1.drewN q) := ⟨h.os, h.tape, h.output, h.size, h.block⟩
theorem Kept3.drew (h : Kept3 r g b w w1) : Kept3 r g b w w1.drew := ⟨h.os, h.tape, h.output, h.size, h.block⟩
end
/-- A size came, or the reading gave up. -/
def SzEnd (w : World) (r g b : Nat) (s : ByteArray) : Except Nat (Tab × Nat) → Ending → World → Prop
  | .error x, e, w' => e = gave x ∧ w.grownBy w' (some r)
  | .ok (t', q), e, w' => e = .returned (.tuple #[]) ∧ RdAt w' r g s q ∧ ∃ b', TAt w' g b' t' ∧ Kept3 r g b w w' ∧ (b' = b ∨ b' = g ∨ w.heap.size ≤ b')

set_option maxHeartbeats 2000000 in
set_option maxRecDepth 100000 in
theorem resize_any (r g b : Nat) (s : ByteArray) (p : Nat) (t : Tab) (n : Nat) (q : Bool) (R : Except Nat (Tab × Nat)) (w : World) (h : RdAt w r g s p) (hT : TAt w g b t) (h4 : Up.Ok4 t) (h1 : r ≠ g) (h2 : r ≠ b) (hs : s.size ≤ 1000000) (hp : p ≤ s.size) (hq : decide (0 < n) = q) (hR : Hid (siz s t p n = R)) :
    Calls Try.prog 44 #[.pointer (some ⟨r, 0, none⟩), .bool q] w (SzEnd w r g b s R) := by
  have hr := hR.out
  clear hR
  unfold siz at hr
  obtain ⟨N, hN⟩ : ∃ N, num s.data.toList p 5 = N := ⟨_, rfl⟩
  have HI := Lib.hid (integer_any r g s p 5 N w h hs hp (by omega) (by omega) (Lib.hid hN))
  rw [hN] at hr
  cases N with
  | error x =>
    have hRe : R = .error x := hr.symm
    subst hRe
    clear hN hr
    go_enter Try.func44, Try.ntmps44
    go_wp2_with fail
    refine HI.out.mono ?_
    rintro e w1 ⟨rfl, hG⟩
    go_wp2_with fail
    exact ⟨rfl, rfl, hG⟩
  | ok mq =>
    obtain ⟨m, z⟩ := mq
    obtain ⟨b1, b2, b3, b4⟩ := num_ok hN
    simp only at hr
    have hcv : IntKind.i64.wrap (m : Int) = (m : Int) := by rw [IntKind.wrap_i64]; omega
    have HT := Lib.hid hT
    have HLT := Lib.hid hT.lt
    have H4 := Lib.hid h4
    clear hN hT h h4
    by_cases hbad : 0 < n ∨ 4096 < m
    · rw [if_pos hbad] at hr
      subst hr
      by_cases hn : 0 < n
      · have hq1 : q = true := by rw [← hq]; exact decide_eq_true hn
        subst hq1
        clear hq hbad hn
        go_enter Try.func44, Try.ntmps44
        go_wp2_with fail
        refine HI.out.mono ?_
        rintro e w1 ⟨rfl, hA, hG⟩
        have HG := Lib.hid hG
        clear hA hG
        go_wp2_with fail
        exact ⟨rfl, rfl, HG.out⟩
      · have hq1 : q = false := by rw [← hq]; exact decide_eq_false hn
        subst hq1
        have hm : (4096 : Int) < (m : Int) := by omega
        clear hq hbad hn
        go_enter Try.func44, Try.ntmps44
        go_wp2_with fail
        refine HI.out.mono ?_
        rintro e w1 ⟨rfl, hA, hG⟩
        have HG := Lib.hid hG
        clear hA hG
        go_wp2_with fail
        exact ⟨rfl, rfl, HG.out⟩
    · rw [if_neg hbad] at hr
      subst hr
      have hq1 : q = false := by rw [← hq]; exact decide_eq_false (by omega)
      subst hq1
      have hm : ¬ ((4096 : Int) < (m : Int)) := by omega
      clear hq hbad
      go_enter Try.func44, Try.ntmps44
      go_wp2_with fail
      refine HI.out.mono ?_
      rintro e w1 ⟨rfl, hA, hG⟩
      have c2 := hA.c2
      have hT1 : TAt w1 g b t := HT.out.kept hG.size (grown_block hG HLT.out.1 (fun e => h1 e.symm)) (fun hb => grown_block hG hb (fun e => h2 e.symm))
      have HRS := Lib.hid (resize_is g b t (m : Int) w1 (Lib.hid hT1) (Lib.hid (Ok4.fit H4.out)) (by omega) (by omega))
      have HA := Lib.hid hA
      have HG := Lib.hid hG
      clear hA hG hT1
      go_wp2_with fail
      refine HRS.out.mono ?_
      rintro e w2 ⟨rfl, b', hT2, hK2, hb'⟩
      go_wp2_with fail
      go_end0
      refine ⟨rfl, (hK2.block r HA.out.lt h1 h2).trans HA.out, b', hT2, (Kept3.of_grown HG.out).trans (Kept3.of_kept2 hK2) (.inl rfl), ?_⟩
      rcases hb' with e | e
      · exact .inl e
      · exact .inr (.inl e)
end Go.Proofs.Ytamgnbjdeoklbaa
