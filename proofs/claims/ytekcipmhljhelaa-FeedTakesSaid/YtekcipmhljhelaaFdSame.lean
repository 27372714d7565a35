/- The document's Same of layer 15, of two slices that read as the same frames. No condition. -/
import Derived.Test.YtekcipmhljhelaaProg
import Derived.Test.YtekcipmhljhelaaBytes
import Derived.Test.YtekcipmhljhelaaFrMath
import Derived.Test.YtekcipmhljhelaaFrBox
import Derived.Test.YtekcipmhljhelaaFrEq
import Derived.Test.YtekcipmhljhelaaFdRow
import Derived.WalkKit
import Derived.Lib.Hide
import Derived.Laws.Rows
import Derived.Outline
import Derived.IntWalk
import Derived.WalkSpells
import Derived.WalkLawsBesides
import Derived.LoopTactic
import Derived.Deep.QuietTactic
import Derived.BigQuiet
import Derived.Deep.CutRange
namespace Go.Proofs.Ytekcipmhljhelaa
open Go Go.RowKit Bytes Fr Fd

set_option maxHeartbeats 8000000 in
set_option maxRecDepth 100000 in
theorem fsame_is (A B : Option Addr) (n c d : Nat) (L : List Frm) (w : World) (hL : Hid (L.length = n)) (hn : n ≤ 1000000) (hA : Hid (RdF w w.heap.size A L)) (hB : Hid (RdF w w.heap.size B L)) :
    Calls Try.prog 13 #[.slice A n c, .slice B n d] w fun e w' => e = .returned (.bool true) ∧ Below w.heap.size w w' := by
  have hnn : ((n : Int) != (n : Int)) = false := by simp
  go_enter Try.func13, Try.ntmps13
  go_wp2_with fail
  go_loopw [5] (fun i wr => ∃ k : Nat, k ≤ n ∧ i = .int .i64 (k : Int) ∧ Hid (Below w.heap.size w wr)) (fun i _ => n - (intOf i).toNat)
  case atStart => exact ⟨0, Nat.zero_le _, rfl, Lib.hid (Below.refl _ _)⟩
  case round =>
    obtain ⟨k, hk, rfl, hBw⟩ := hrel
    by_cases hlt : k < n
    · have hki : (k : Int) < (n : Int) := by omega
      have hk0 : (0 : Int) ≤ (k : Int) := by omega
      have hkl : k < L.length := by rw [hL.out]; exact hlt
      obtain ⟨b1, o1, rfl, hb1, h1⟩ := hA.out.get hkl
      obtain ⟨b2, o2, rfl, hb2, h2⟩ := hB.out.get hkl
      obtain ⟨a0, a1, a2, a3⟩ := h1.below hBw.out hb1
      obtain ⟨d0, d1, d2, d3⟩ := h2.below hBw.out hb2
      obtain ⟨f, hf⟩ : ∃ f, frAt L k = f := ⟨_, rfl⟩
      rw [hf] at a0 a1 a2 a3 d0 d1 d2 d3
      have HB1 : Hid (∀ m, Below w.heap.size w (wr.drewN m)) := Lib.hid (fun _ => ⟨hBw.out.os, hBw.out.tape, hBw.out.output, hBw.out.size, hBw.out.block⟩)
      have hsm := frm_same' f
      clear h1 h2 hf hkl
      go_upto_region 6 with fail
      go_quiet (fail)
      go_wp2_with fail
      go_roundw
      case rel => exact ⟨k + 1, by omega, by go_num, Lib.hid (HB1.out _)⟩
      case measure => simp [intOf]; omega
    · have hkn : k = n := by omega
      subst hkn
      go_wp2_with fail
      go_ret
      exact ⟨rfl, hBw.out⟩
end Go.Proofs.Ytekcipmhljhelaa
