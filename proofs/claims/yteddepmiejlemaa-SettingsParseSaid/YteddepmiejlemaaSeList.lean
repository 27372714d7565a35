/- The law's list of layer 16, of two slices that read as the same settings. No condition. -/
import Derived.Test.YteddepmiejlemaaProg
import Derived.Test.YteddepmiejlemaaBytes
import Derived.Test.YteddepmiejlemaaFrMath
import Derived.Test.YteddepmiejlemaaFrFrame
import Derived.WalkKit
import Derived.Lib.Hide
import Derived.Laws.Rows
import Derived.Outline
import Derived.IntWalk
import Derived.WalkSpells
import Derived.WalkLawsBesides
import Derived.LoopTactic
import Derived.Deep.QuietTactic
import Derived.BigQuiet
import Derived.Deep.CutRange
namespace Go.Proofs.Yteddepmiejlemaa
open Go Go.RowKit Bytes Fr

set_option maxHeartbeats 8000000 in
set_option maxRecDepth 100000 in
theorem slist_is (A B : Option Addr) (n c d : Nat) (L : List (Nat × Nat)) (w : World) (hL : Hid (L.length = n)) (hn : n ≤ 1000000) (hA : Hid (RdSt w w.heap.size A L)) (hB : Hid (RdSt w w.heap.size B L)) :
    Calls Try.prog 14 #[.slice A n c, .slice B n d] w fun e w' => e = .returned (.bool true) ∧ Below w.heap.size w w' := by
  have hnn : ((n : Int) != (n : Int)) = false := by simp
  go_enter Try.func14, Try.ntmps14
  go_wp2_with fail
  go_loopw [5] (fun i wr => ∃ k : Nat, k ≤ n ∧ i = .int .i64 (k : Int) ∧ Hid (Below w.heap.size w wr)) (fun i _ => n - (intOf i).toNat)
  case atStart => exact ⟨0, Nat.zero_le _, rfl, Lib.hid (Below.refl _ _)⟩
  case round =>
    obtain ⟨k, hk, rfl, hBw⟩ := hrel
    by_cases hlt : k < n
    · have hki : (k : Int) < (n : Int) := by omega
      have hk0 : (0 : Int) ≤ (k : Int) := by omega
      have hkl : k < L.length := by rw [hL.out]; exact hlt
      obtain ⟨b1, o1, rfl, hb1, x0, x1, _⟩ := hA.out k hkl
      obtain ⟨b2, o2, rfl, hb2, y0, y1, _⟩ := hB.out k hkl
      have a0 := (hBw.out.cell (p := ⟨b1, o1 + k * 2, none⟩) hb1).trans x0
      have a1 := (hBw.out.cell (p := ⟨b1, o1 + k * 2 + 1, none⟩) hb1).trans x1
      have d0 := (hBw.out.cell (p := ⟨b2, o2 + k * 2, none⟩) hb2).trans y0
      have d1 := (hBw.out.cell (p := ⟨b2, o2 + k * 2 + 1, none⟩) hb2).trans y1
      obtain ⟨f, hf⟩ : ∃ f, (setAt L k).1 = f := ⟨_, rfl⟩
      obtain ⟨q, hq⟩ : ∃ q, (setAt L k).2 = q := ⟨_, rfl⟩
      rw [hf] at a0 d0
      rw [hq] at a1 d1
      have HB1 : Hid (∀ m, Below w.heap.size w (wr.drewN m)) := Lib.hid (fun _ => ⟨hBw.out.os, hBw.out.tape, hBw.out.output, hBw.out.size, hBw.out.block⟩)
      clear x0 x1 y0 y1 hf hq hkl
      go_upto_region 6 with fail
      go_quiet (fail)
      go_wp2_with fail
      go_roundw
      case rel => exact ⟨k + 1, by omega, by go_num, Lib.hid (HB1.out _)⟩
      case measure => simp [intOf]; omega
    · have hkn : k = n := by omega
      subst hkn
      go_wp2_with fail
      go_ret
      exact ⟨rfl, hBw.out⟩
end Go.Proofs.Yteddepmiejlemaa
