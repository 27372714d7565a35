/- The code's Wrong and Content of layer 14. For payloads of at most 10^6 bytes. -/
import Derived.Test.YtfgeapoojogdbaaProg
import Derived.Test.YtfgeapoojogdbaaBytes
import Derived.Test.YtfgeapoojogdbaaNumBe
import Derived.Test.YtfgeapoojogdbaaNumGet
import Derived.Test.YtfgeapoojogdbaaClone
import Derived.Test.YtfgeapoojogdbaaFrMath
import Derived.Test.YtfgeapoojogdbaaFrRef
import Derived.Test.YtfgeapoojogdbaaFrLow
import Derived.Test.YtfgeapoojogdbaaFrCon
import Derived.WalkKit
import Derived.Lib.Hide
import Derived.Laws.Rows
import Derived.Outline
import Derived.IntWalk
import Derived.WalkSpells
import Derived.WalkLawsBesides
import Derived.Deep.CutRange
import Derived.Deep.RegionHeld3
import Derived.Deep.RegionWith
namespace Go.Proofs.Ytfgeapoojogdbaa
open Go Go.RowKit Bytes Fr

namespace Fr
/-- What stands while calls are made: a frame's box, and all below. -/
def HeldF (X g : Nat) (f : Frm) (w0 w : World) : Prop := w.cell? ⟨X, 0, none⟩ = some (.int .u8 (f.ty : Int)) ∧ w.cell? ⟨X, 1, none⟩ = some (.int .u8 (f.fl : Int)) ∧ w.cell? ⟨X, 2, none⟩ = some (.int .u32 (f.st : Int)) ∧ w.cell? ⟨X, 3, none⟩ = some (.string f.data) ∧ Below g w0 w
theorem held_call {fn : FuncId} {args : Array Value} {r : Value} {X g : Nat} {v0 v1 v2 v3 : Value} {w0 : World} (hgX : g ≤ X) (HC : Hid (∀ W : World, Calls Try.prog fn args W fun e w' => e = .returned r ∧ Below W.heap.size W w')) (W : World)
    (hS : W.cell? ⟨X, 0, none⟩ = some v0 ∧ W.cell? ⟨X, 1, none⟩ = some v1 ∧ W.cell? ⟨X, 2, none⟩ = some v2 ∧ W.cell? ⟨X, 3, none⟩ = some v3 ∧ Below g w0 W) :
    Calls Try.prog fn args W fun e w' => e = .returned r ∧ w'.cell? ⟨X, 0, none⟩ = some v0 ∧ w'.cell? ⟨X, 1, none⟩ = some v1 ∧ w'.cell? ⟨X, 2, none⟩ = some v2 ∧ w'.cell? ⟨X, 3, none⟩ = some v3 ∧ Below g w0 w' := by
  obtain ⟨c0, c1, c2, c3, hB⟩ := hS
  refine (HC.out W).mono ?_
  rintro e w' ⟨he, hB2⟩
  have hX : X < W.heap.size := World.block_lt_of_cell? W _ c0
  have far : ∀ {i : Nat} {v : Value}, W.cell? ⟨X, i, none⟩ = some v → w'.cell? ⟨X, i, none⟩ = some v := fun h => (hB2.cell (World.block_lt_of_cell? W _ h)).trans h
  exact ⟨he, far c0, far c1, far c2, far c3, hB.trans (hB2.mono (by omega))⟩
end Fr

set_option maxHeartbeats 8000000 in
set_option maxRecDepth 100000 in
theorem cmis_is (f : Frm) (q : Bool) (w : World) (hf : Okf f) (hq : Hid (misB f = q)) :
    Calls Try.prog 42 #[.agg #[.int .u8 (f.ty : Int), .int .u8 (f.fl : Int), .int .u32 (f.st : Int), .string f.data]] w fun e w' => e = .returned (.bool q) ∧ Below w.heap.size w w' := by
  obtain ⟨hX, hB⟩ := boxF_new w f
  have HX := Lib.hid hX
  have HB := Lib.hid hB
  have hty := hf.ty
  have hst := hf.st
  clear hX hB
  obtain ⟨a0, a1, a2, a3⟩ := HX.out.c
  have hqq := hq.out
  unfold misB at hqq
  clear hq
  go_enter Try.func42, Try.ntmps42
  go_upto_region 1 with fail
  generalize w.alloc (.cells #[.int .u8 (f.ty : Int), .int .u8 (f.fl : Int), .int .u32 (f.st : Int), .string f.data] 24) = W at *
  rcases (show f.ty = 0 ∨ f.ty = 1 ∨ f.ty = 2 ∨ f.ty = 3 ∨ f.ty = 4 ∨ f.ty = 5 ∨ f.ty = 6 ∨ f.ty = 7 ∨ f.ty = 8 ∨ f.ty = 9 ∨ 9 < f.ty by omega) with ht | ht | ht | ht | ht | ht | ht | ht | ht | ht | ht
  · skip
    have t0 : ((f.ty : Int) == 0) = true := beq_iff_eq.2 (by omega)
    have s0 : ((f.st : Int) == 0) = q := by rw [← hqq]; rw [if_neg (by omega), if_neg (by omega), if_pos (by omega), Bool.eq_iff_iff, beq_iff_eq, decide_eq_true_iff]; omega
    have s1 : decide ((f.st : Int) = 0) = q := by rw [← s0]; rfl
    clear hqq ht hty
    go_wp2_with fail
    go_ret
    exact ⟨rfl, HB.out⟩
  · skip
    have t0 : ((f.ty : Int) == 0) = false := beq_eq_false_iff_ne.2 (by omega)
    have t1 : ((f.ty : Int) == 1) = true := beq_iff_eq.2 (by omega)
    have s0 : ((f.st : Int) == 0) = q := by rw [← hqq]; rw [if_neg (by omega), if_neg (by omega), if_pos (by omega), Bool.eq_iff_iff, beq_iff_eq, decide_eq_true_iff]; omega
    have s1 : decide ((f.st : Int) = 0) = q := by rw [← s0]; rfl
    clear hqq ht hty
    go_wp2_with fail
    go_ret
    exact ⟨rfl, HB.out⟩
  · skip
    have t0 : ((f.ty : Int) == 0) = false := beq_eq_false_iff_ne.2 (by omega)
    have t1 : ((f.ty : Int) == 1) = false := beq_eq_false_iff_ne.2 (by omega)
    have t2 : ((f.ty : Int) == 2) = true := beq_iff_eq.2 (by omega)
    have s0 : ((f.st : Int) == 0) = q := by rw [← hqq]; rw [if_neg (by omega), if_neg (by omega), if_pos (by omega), Bool.eq_iff_iff, beq_iff_eq, decide_eq_true_iff]; omega
    have s1 : decide ((f.st : Int) = 0) = q := by rw [← s0]; rfl
    clear hqq ht hty
    go_wp2_with fail
    go_ret
    exact ⟨rfl, HB.out⟩
  · skip
    have t0 : ((f.ty : Int) == 0) = false := beq_eq_false_iff_ne.2 (by omega)
    have t1 : ((f.ty : Int) == 1) = false := beq_eq_false_iff_ne.2 (by omega)
    have t2 : ((f.ty : Int) == 2) = false := beq_eq_false_iff_ne.2 (by omega)
    have t3 : ((f.ty : Int) == 3) = true := beq_iff_eq.2 (by omega)
    have s0 : ((f.st : Int) == 0) = q := by rw [← hqq]; rw [if_neg (by omega), if_neg (by omega), if_pos (by omega), Bool.eq_iff_iff, beq_iff_eq, decide_eq_true_iff]; omega
    have s1 : decide ((f.st : Int) = 0) = q := by rw [← s0]; rfl
    clear hqq ht hty
    go_wp2_with fail
    go_ret
    exact ⟨rfl, HB.out⟩
  · skip
    have t0 : ((f.ty : Int) == 0) = false := beq_eq_false_iff_ne.2 (by omega)
    have t1 : ((f.ty : Int) == 1) = false := beq_eq_false_iff_ne.2 (by omega)
    have t2 : ((f.ty : Int) == 2) = false := beq_eq_false_iff_ne.2 (by omega)
    have t3 : ((f.ty : Int) == 3) = false := beq_eq_false_iff_ne.2 (by omega)
    have t9 : ((f.ty : Int) == 9) = false := beq_eq_false_iff_ne.2 (by omega)
    have t4 : ((f.ty : Int) == 4) = true := beq_iff_eq.2 (by omega)
    have s0 : ((f.st : Int) != 0) = q := by rw [← hqq]; rw [if_pos (by omega), Bool.eq_iff_iff, bne_iff_ne, decide_eq_true_iff]; omega
    have s1 : (!decide ((f.st : Int) = 0)) = q := by rw [← s0]; rfl
    clear hqq ht hty
    go_wp2_with fail
    go_ret
    exact ⟨rfl, HB.out⟩
  · skip
    have t0 : ((f.ty : Int) == 0) = false := beq_eq_false_iff_ne.2 (by omega)
    have t1 : ((f.ty : Int) == 1) = false := beq_eq_false_iff_ne.2 (by omega)
    have t2 : ((f.ty : Int) == 2) = false := beq_eq_false_iff_ne.2 (by omega)
    have t3 : ((f.ty : Int) == 3) = false := beq_eq_false_iff_ne.2 (by omega)
    have t9 : ((f.ty : Int) == 9) = false := beq_eq_false_iff_ne.2 (by omega)
    have t4 : ((f.ty : Int) == 4) = false := beq_eq_false_iff_ne.2 (by omega)
    have t6 : ((f.ty : Int) == 6) = false := beq_eq_false_iff_ne.2 (by omega)
    have t7 : ((f.ty : Int) == 7) = false := beq_eq_false_iff_ne.2 (by omega)
    have t5 : ((f.ty : Int) == 5) = true := beq_iff_eq.2 (by omega)
    obtain rfl : q = true := by rw [← hqq, if_neg (by omega), if_pos (by omega)]
    clear hqq ht hty
    go_wp2_with fail
    go_ret
    exact ⟨rfl, HB.out⟩
  · skip
    have t0 : ((f.ty : Int) == 0) = false := beq_eq_false_iff_ne.2 (by omega)
    have t1 : ((f.ty : Int) == 1) = false := beq_eq_false_iff_ne.2 (by omega)
    have t2 : ((f.ty : Int) == 2) = false := beq_eq_false_iff_ne.2 (by omega)
    have t3 : ((f.ty : Int) == 3) = false := beq_eq_false_iff_ne.2 (by omega)
    have t9 : ((f.ty : Int) == 9) = false := beq_eq_false_iff_ne.2 (by omega)
    have t4 : ((f.ty : Int) == 4) = false := beq_eq_false_iff_ne.2 (by omega)
    have t6 : ((f.ty : Int) == 6) = true := beq_iff_eq.2 (by omega)
    have s0 : ((f.st : Int) != 0) = q := by rw [← hqq]; rw [if_pos (by omega), Bool.eq_iff_iff, bne_iff_ne, decide_eq_true_iff]; omega
    have s1 : (!decide ((f.st : Int) = 0)) = q := by rw [← s0]; rfl
    clear hqq ht hty
    go_wp2_with fail
    go_ret
    exact ⟨rfl, HB.out⟩
  · skip
    have t0 : ((f.ty : Int) == 0) = false := beq_eq_false_iff_ne.2 (by omega)
    have t1 : ((f.ty : Int) == 1) = false := beq_eq_false_iff_ne.2 (by omega)
    have t2 : ((f.ty : Int) == 2) = false := beq_eq_false_iff_ne.2 (by omega)
    have t3 : ((f.ty : Int) == 3) = false := beq_eq_false_iff_ne.2 (by omega)
    have t9 : ((f.ty : Int) == 9) = false := beq_eq_false_iff_ne.2 (by omega)
    have t4 : ((f.ty : Int) == 4) = false := beq_eq_false_iff_ne.2 (by omega)
    have t6 : ((f.ty : Int) == 6) = false := beq_eq_false_iff_ne.2 (by omega)
    have t7 : ((f.ty : Int) == 7) = true := beq_iff_eq.2 (by omega)
    have s0 : ((f.st : Int) != 0) = q := by rw [← hqq]; rw [if_pos (by omega), Bool.eq_iff_iff, bne_iff_ne, decide_eq_true_iff]; omega
    have s1 : (!decide ((f.st : Int) = 0)) = q := by rw [← s0]; rfl
    clear hqq ht hty
    go_wp2_with fail
    go_ret
    exact ⟨rfl, HB.out⟩
  · skip
    have t0 : ((f.ty : Int) == 0) = false := beq_eq_false_iff_ne.2 (by omega)
    have t1 : ((f.ty : Int) == 1) = false := beq_eq_false_iff_ne.2 (by omega)
    have t2 : ((f.ty : Int) == 2) = false := beq_eq_false_iff_ne.2 (by omega)
    have t3 : ((f.ty : Int) == 3) = false := beq_eq_false_iff_ne.2 (by omega)
    have t9 : ((f.ty : Int) == 9) = false := beq_eq_false_iff_ne.2 (by omega)
    have t4 : ((f.ty : Int) == 4) = false := beq_eq_false_iff_ne.2 (by omega)
    have t6 : ((f.ty : Int) == 6) = false := beq_eq_false_iff_ne.2 (by omega)
    have t7 : ((f.ty : Int) == 7) = false := beq_eq_false_iff_ne.2 (by omega)
    have t5 : ((f.ty : Int) == 5) = false := beq_eq_false_iff_ne.2 (by omega)
    obtain rfl : q = false := by rw [← hqq, if_neg (by omega), if_neg (by omega), if_neg (by omega)]
    clear hqq ht hty
    go_wp2_with fail
    go_ret
    exact ⟨rfl, HB.out⟩
  · skip
    have t0 : ((f.ty : Int) == 0) = false := beq_eq_false_iff_ne.2 (by omega)
    have t1 : ((f.ty : Int) == 1) = false := beq_eq_false_iff_ne.2 (by omega)
    have t2 : ((f.ty : Int) == 2) = false := beq_eq_false_iff_ne.2 (by omega)
    have t3 : ((f.ty : Int) == 3) = false := beq_eq_false_iff_ne.2 (by omega)
    have t9 : ((f.ty : Int) == 9) = true := beq_iff_eq.2 (by omega)
    have s0 : ((f.st : Int) == 0) = q := by rw [← hqq]; rw [if_neg (by omega), if_neg (by omega), if_pos (by omega), Bool.eq_iff_iff, beq_iff_eq, decide_eq_true_iff]; omega
    have s1 : decide ((f.st : Int) = 0) = q := by rw [← s0]; rfl
    clear hqq ht hty
    go_wp2_with fail
    go_ret
    exact ⟨rfl, HB.out⟩
  · skip
    have t0 : ((f.ty : Int) == 0) = false := beq_eq_false_iff_ne.2 (by omega)
    have t1 : ((f.ty : Int) == 1) = false := beq_eq_false_iff_ne.2 (by omega)
    have t2 : ((f.ty : Int) == 2) = false := beq_eq_false_iff_ne.2 (by omega)
    have t3 : ((f.ty : Int) == 3) = false := beq_eq_false_iff_ne.2 (by omega)
    have t9 : ((f.ty : Int) == 9) = false := beq_eq_false_iff_ne.2 (by omega)
    have t4 : ((f.ty : Int) == 4) = false := beq_eq_false_iff_ne.2 (by omega)
    have t6 : ((f.ty : Int) == 6) = false := beq_eq_false_iff_ne.2 (by omega)
    have t7 : ((f.ty : Int) == 7) = false := beq_eq_false_iff_ne.2 (by omega)
    have t5 : ((f.ty : Int) == 5) = false := beq_eq_false_iff_ne.2 (by omega)
    obtain rfl : q = false := by rw [← hqq, if_neg (by omega), if_neg (by omega), if_neg (by omega)]
    clear hqq ht hty
    go_wp2_with fail
    go_ret
    exact ⟨rfl, HB.out⟩

set_option maxHeartbeats 8000000 in
set_option maxRecDepth 100000 in
theorem csiz_is (f : Frm) (q : Bool) (w : World) (hf : Okf f) (hs : f.data.size ≤ 1000000) (hq : Hid (sizB f = q)) :
    Calls Try.prog 43 #[.agg #[.int .u8 (f.ty : Int), .int .u8 (f.fl : Int), .int .u32 (f.st : Int), .string f.data]] w fun e w' => e = .returned (.bool q) ∧ Below w.heap.size w w' := by
  obtain ⟨hX, hB⟩ := boxF_new w f
  have HX := Lib.hid hX
  have HB := Lib.hid hB
  have hty := hf.ty
  have hst := hf.st
  clear hX hB
  obtain ⟨a0, a1, a2, a3⟩ := HX.out.c
  have hqq := hq.out
  unfold sizB at hqq
  clear hq
  obtain ⟨q1, h1⟩ : ∃ q1, flagF f 1 = q1 := ⟨_, rfl⟩
  have hz := flag_and f 1 _ hf (.inl rfl) h1
  obtain ⟨z, hzz⟩ : ∃ z, bits .and .u8 (f.fl : Int) 1 = z := ⟨_, rfl⟩
  rw [show ((1 : Nat) : Int) = 1 from rfl, hzz] at hz
  rw [h1] at hqq
  go_enter Try.func43, Try.ntmps43
  go_upto_region 1 with fail
  generalize w.alloc (.cells #[.int .u8 (f.ty : Int), .int .u8 (f.fl : Int), .int .u32 (f.st : Int), .string f.data] 24) = W at *
  rcases (show f.ty = 0 ∨ f.ty = 1 ∨ f.ty = 2 ∨ f.ty = 3 ∨ f.ty = 4 ∨ f.ty = 5 ∨ f.ty = 6 ∨ f.ty = 7 ∨ f.ty = 8 ∨ f.ty = 9 ∨ 9 < f.ty by omega) with ht | ht | ht | ht | ht | ht | ht | ht | ht | ht | ht
  · skip
    have t0 : ((f.ty : Int) == 0) = true := beq_iff_eq.2 (by omega)
    obtain ⟨k, hk⟩ : ∃ k, ahC f = k := ⟨_, rfl⟩
    have HK := Lib.hid hk
    rw [if_pos (by omega), hk] at hqq
    have s0 : decide ((f.data.size : Int) < (k : Int)) = q := by rw [← hqq, Bool.eq_iff_iff, decide_eq_true_iff, decide_eq_true_iff]; omega
    have s1 : decide (f.data.size < k) = q := hqq
    clear hqq ht hty hk hz hzz h1
    go_wp2_with fail
    refine (cahead_is f k W hf HK).mono ?_
    rintro e w1 ⟨rfl, hB1⟩
    have HB1 := Lib.hid (HB.out.trans (hB1.mono HB.out.size))
    clear hB1 a0 a1 a2 a3
    go_wp2_with fail
    go_ret
    exact ⟨rfl, HB1.out⟩
  · skip
    have t0 : ((f.ty : Int) == 0) = false := beq_eq_false_iff_ne.2 (by omega)
    have t1 : ((f.ty : Int) == 1) = true := beq_iff_eq.2 (by omega)
    obtain ⟨k, hk⟩ : ∃ k, ahC f = k := ⟨_, rfl⟩
    have HK := Lib.hid hk
    rw [if_pos (by omega), hk] at hqq
    have s0 : decide ((f.data.size : Int) < (k : Int)) = q := by rw [← hqq, Bool.eq_iff_iff, decide_eq_true_iff, decide_eq_true_iff]; omega
    have s1 : decide (f.data.size < k) = q := hqq
    clear hqq ht hty hk hz hzz h1
    go_wp2_with fail
    refine (cahead_is f k W hf HK).mono ?_
    rintro e w1 ⟨rfl, hB1⟩
    have HB1 := Lib.hid (HB.out.trans (hB1.mono HB.out.size))
    clear hB1 a0 a1 a2 a3
    go_wp2_with fail
    go_ret
    exact ⟨rfl, HB1.out⟩
  · skip
    have t0 : ((f.ty : Int) == 0) = false := beq_eq_false_iff_ne.2 (by omega)
    have t1 : ((f.ty : Int) == 1) = false := beq_eq_false_iff_ne.2 (by omega)
    have t3 : ((f.ty : Int) == 3) = false := beq_eq_false_iff_ne.2 (by omega)
    have t8 : ((f.ty : Int) == 8) = false := beq_eq_false_iff_ne.2 (by omega)
    have t4 : ((f.ty : Int) == 4) = false := beq_eq_false_iff_ne.2 (by omega)
    have t6 : ((f.ty : Int) == 6) = false := beq_eq_false_iff_ne.2 (by omega)
    have t7 : ((f.ty : Int) == 7) = false := beq_eq_false_iff_ne.2 (by omega)
    obtain rfl : q = false := by rw [← hqq, if_neg (by omega), if_neg (by omega), if_neg (by omega), if_neg (by omega), if_neg (by omega)]
    clear hqq ht hty h1 hz hzz
    go_wp2_with fail
    go_ret
    exact ⟨rfl, HB.out⟩
  · skip
    have t0 : ((f.ty : Int) == 0) = false := beq_eq_false_iff_ne.2 (by omega)
    have t1 : ((f.ty : Int) == 1) = false := beq_eq_false_iff_ne.2 (by omega)
    have t3 : ((f.ty : Int) == 3) = true := beq_iff_eq.2 (by omega)
    rw [if_neg (by omega), if_pos (by omega)] at hqq
    have s0 : ((f.data.size : Int) != 4) = q := by rw [← hqq, Bool.eq_iff_iff, bne_iff_ne, decide_eq_true_iff]; omega
    clear hqq ht hty h1 hz hzz
    go_wp2_with fail
    go_ret
    exact ⟨rfl, HB.out⟩
  · skip
    have t0 : ((f.ty : Int) == 0) = false := beq_eq_false_iff_ne.2 (by omega)
    have t1 : ((f.ty : Int) == 1) = false := beq_eq_false_iff_ne.2 (by omega)
    have t3 : ((f.ty : Int) == 3) = false := beq_eq_false_iff_ne.2 (by omega)
    have t8 : ((f.ty : Int) == 8) = false := beq_eq_false_iff_ne.2 (by omega)
    have t4 : ((f.ty : Int) == 4) = true := beq_iff_eq.2 (by omega)
    rw [if_neg (by omega), if_neg (by omega), if_pos (by omega)] at hqq
    have hr : (f.data.size : Int).tmod 6 = ((f.data.size % 6 : Nat) : Int) := by rw [Int.tmod_eq_emod_of_nonneg (by omega)]; omega
    have hr2 : (f.data.size : Int) % 6 = ((f.data.size % 6 : Nat) : Int) := by omega
    obtain ⟨r6, h6⟩ : ∃ r, f.data.size % 6 = r := ⟨_, rfl⟩
    rw [h6] at hr hr2 hqq
    cases q1 with
    | true =>
      rw [if_pos rfl] at hqq
      have s0 : ((f.data.size : Int) != 0) = q := by rw [← hqq, Bool.eq_iff_iff, bne_iff_ne, decide_eq_true_iff]; omega
      have s1 : (f.data.isEmpty || false) = f.data.isEmpty := Bool.or_false _
      clear s1
      clear hqq ht hty h1 h6
      go_wp2_with fail
      go_ret
      exact ⟨rfl, HB.out⟩
    | false =>
      rw [if_neg (by decide)] at hqq
      have hr6 : r6 < 6 := by omega
      have s0 : ((r6 : Int) != 0) = q := by rw [← hqq, Bool.eq_iff_iff, bne_iff_ne, decide_eq_true_iff]; omega
      clear hqq ht hty h1 h6
      go_wp2_with fail
      go_ret
      exact ⟨rfl, HB.out⟩
  · skip
    have t0 : ((f.ty : Int) == 0) = false := beq_eq_false_iff_ne.2 (by omega)
    have t1 : ((f.ty : Int) == 1) = false := beq_eq_false_iff_ne.2 (by omega)
    have t3 : ((f.ty : Int) == 3) = false := beq_eq_false_iff_ne.2 (by omega)
    have t8 : ((f.ty : Int) == 8) = false := beq_eq_false_iff_ne.2 (by omega)
    have t4 : ((f.ty : Int) == 4) = false := beq_eq_false_iff_ne.2 (by omega)
    have t6 : ((f.ty : Int) == 6) = false := beq_eq_false_iff_ne.2 (by omega)
    have t7 : ((f.ty : Int) == 7) = false := beq_eq_false_iff_ne.2 (by omega)
    obtain rfl : q = false := by rw [← hqq, if_neg (by omega), if_neg (by omega), if_neg (by omega), if_neg (by omega), if_neg (by omega)]
    clear hqq ht hty h1 hz hzz
    go_wp2_with fail
    go_ret
    exact ⟨rfl, HB.out⟩
  · skip
    have t0 : ((f.ty : Int) == 0) = false := beq_eq_false_iff_ne.2 (by omega)
    have t1 : ((f.ty : Int) == 1) = false := beq_eq_false_iff_ne.2 (by omega)
    have t3 : ((f.ty : Int) == 3) = false := beq_eq_false_iff_ne.2 (by omega)
    have t8 : ((f.ty : Int) == 8) = false := beq_eq_false_iff_ne.2 (by omega)
    have t4 : ((f.ty : Int) == 4) = false := beq_eq_false_iff_ne.2 (by omega)
    have t6 : ((f.ty : Int) == 6) = true := beq_iff_eq.2 (by omega)
    rw [if_neg (by omega), if_neg (by omega), if_neg (by omega), if_pos (by omega)] at hqq
    have s0 : ((f.data.size : Int) != 8) = q := by rw [← hqq, Bool.eq_iff_iff, bne_iff_ne, decide_eq_true_iff]; omega
    clear hqq ht hty h1 hz hzz
    go_wp2_with fail
    go_ret
    exact ⟨rfl, HB.out⟩
  · skip
    have t0 : ((f.ty : Int) == 0) = false := beq_eq_false_iff_ne.2 (by omega)
    have t1 : ((f.ty : Int) == 1) = false := beq_eq_false_iff_ne.2 (by omega)
    have t3 : ((f.ty : Int) == 3) = false := beq_eq_false_iff_ne.2 (by omega)
    have t8 : ((f.ty : Int) == 8) = false := beq_eq_false_iff_ne.2 (by omega)
    have t4 : ((f.ty : Int) == 4) = false := beq_eq_false_iff_ne.2 (by omega)
    have t6 : ((f.ty : Int) == 6) = false := beq_eq_false_iff_ne.2 (by omega)
    have t7 : ((f.ty : Int) == 7) = true := beq_iff_eq.2 (by omega)
    rw [if_neg (by omega), if_neg (by omega), if_neg (by omega), if_neg (by omega), if_pos (by omega)] at hqq
    have s0 : decide ((f.data.size : Int) < 8) = q := by rw [← hqq, Bool.eq_iff_iff, decide_eq_true_iff, decide_eq_true_iff]; omega
    clear hqq ht hty h1 hz hzz
    go_wp2_with fail
    go_ret
    exact ⟨rfl, HB.out⟩
  · skip
    have t0 : ((f.ty : Int) == 0) = false := beq_eq_false_iff_ne.2 (by omega)
    have t1 : ((f.ty : Int) == 1) = false := beq_eq_false_iff_ne.2 (by omega)
    have t3 : ((f.ty : Int) == 3) = false := beq_eq_false_iff_ne.2 (by omega)
    have t8 : ((f.ty : Int) == 8) = true := beq_iff_eq.2 (by omega)
    rw [if_neg (by omega), if_pos (by omega)] at hqq
    have s0 : ((f.data.size : Int) != 4) = q := by rw [← hqq, Bool.eq_iff_iff, bne_iff_ne, decide_eq_true_iff]; omega
    clear hqq ht hty h1 hz hzz
    go_wp2_with fail
    go_ret
    exact ⟨rfl, HB.out⟩
  · skip
    have t0 : ((f.ty : Int) == 0) = false := beq_eq_false_iff_ne.2 (by omega)
    have t1 : ((f.ty : Int) == 1) = false := beq_eq_false_iff_ne.2 (by omega)
    have t3 : ((f.ty : Int) == 3) = false := beq_eq_false_iff_ne.2 (by omega)
    have t8 : ((f.ty : Int) == 8) = false := beq_eq_false_iff_ne.2 (by omega)
    have t4 : ((f.ty : Int) == 4) = false := beq_eq_false_iff_ne.2 (by omega)
    have t6 : ((f.ty : Int) == 6) = false := beq_eq_false_iff_ne.2 (by omega)
    have t7 : ((f.ty : Int) == 7) = false := beq_eq_false_iff_ne.2 (by omega)
    obtain rfl : q = false := by rw [← hqq, if_neg (by omega), if_neg (by omega), if_neg (by omega), if_neg (by omega), if_neg (by omega)]
    clear hqq ht hty h1 hz hzz
    go_wp2_with fail
    go_ret
    exact ⟨rfl, HB.out⟩
  · skip
    have t0 : ((f.ty : Int) == 0) = false := beq_eq_false_iff_ne.2 (by omega)
    have t1 : ((f.ty : Int) == 1) = false := beq_eq_false_iff_ne.2 (by omega)
    have t3 : ((f.ty : Int) == 3) = false := beq_eq_false_iff_ne.2 (by omega)
    have t8 : ((f.ty : Int) == 8) = false := beq_eq_false_iff_ne.2 (by omega)
    have t4 : ((f.ty : Int) == 4) = false := beq_eq_false_iff_ne.2 (by omega)
    have t6 : ((f.ty : Int) == 6) = false := beq_eq_false_iff_ne.2 (by omega)
    have t7 : ((f.ty : Int) == 7) = false := beq_eq_false_iff_ne.2 (by omega)
    obtain rfl : q = false := by rw [← hqq, if_neg (by omega), if_neg (by omega), if_neg (by omega), if_neg (by omega), if_neg (by omega)]
    clear hqq ht hty h1 hz hzz
    go_wp2_with fail
    go_ret
    exact ⟨rfl, HB.out⟩

set_option maxHeartbeats 8000000 in
set_option maxRecDepth 100000 in
theorem cfil_is (f : Frm) (q : Bool) (w : World) (hf : Okf f) (hs : f.data.size ≤ 1000000) (hz : Hid (sizB f = false)) (hq : Hid (filB f = q)) :
    Calls Try.prog 44 #[.agg #[.int .u8 (f.ty : Int), .int .u8 (f.fl : Int), .int .u32 (f.st : Int), .string f.data]] w fun e w' => e = .returned (.bool q) ∧ Below w.heap.size w w' := by
  obtain ⟨hX, hB⟩ := boxF_new w f
  have HX := Lib.hid hX
  have HB := Lib.hid hB
  have hty := hf.ty
  have hst := hf.st
  clear hX hB
  obtain ⟨a0, a1, a2, a3⟩ := HX.out.c
  have hqq := hq.out
  unfold filB at hqq
  clear hq
  go_enter Try.func44, Try.ntmps44
  go_upto_region 1 with fail
  generalize w.alloc (.cells #[.int .u8 (f.ty : Int), .int .u8 (f.fl : Int), .int .u32 (f.st : Int), .string f.data] 24) = W at *
  rcases (show f.ty = 0 ∨ f.ty = 1 ∨ f.ty = 8 ∨ (1 < f.ty ∧ f.ty ≠ 8) by omega) with ht | ht | ht | ht
  · skip
    have t0 : ((f.ty : Int) == 0) = true := beq_iff_eq.2 (by omega)
    have hlen := siz_ahead hz.out (by omega)
    have hpd : padB f = true → 0 < f.data.size := siz_pad hz.out
    obtain ⟨k, hk⟩ : ∃ k, ahC f = k := ⟨_, rfl⟩
    obtain ⟨n, hn⟩ : ∃ n, beC f = n := ⟨_, rfl⟩
    rw [if_pos (by omega), hk, hn] at hqq
    rw [hk] at hlen
    have HK := Lib.hid (fun W : World => cahead_is f k W hf (Lib.hid hk))
    have HN := Lib.hid (fun W : World => cbehind_is f n W hf hpd (Lib.hid hn))
    have ews : IntKind.i64.wrap ((f.data.size : Int) - (k : Int)) = ((f.data.size - k : Nat) : Int) := by rw [IntKind.wrap_i64]; omega
    obtain ⟨m, hm⟩ : ∃ m, f.data.size - k = m := ⟨_, rfl⟩
    rw [hm] at ews hqq
    have s0 : decide ((m : Int) < (n : Int)) = q := by rw [← hqq, Bool.eq_iff_iff, decide_eq_true_iff, decide_eq_true_iff]; omega
    have s1 : decide (m < n) = q := hqq
    have hX0 : w.heap.size ≤ w.heap.size := Nat.le_refl _
    clear hqq ht hty hk hn hm hlen hpd hz
    go_upto_region 4 with fail
    have b0 := HB.out.drew
    have HN2 := Lib.hid (fun W h => held_call (X := w.heap.size) (g := w.heap.size) (w0 := w) (v0 := .int .u8 (f.ty : Int)) (v1 := .int .u8 (f.fl : Int)) (v2 := .int .u32 (f.st : Int)) (v3 := .string f.data) hX0 HN W h)
    have HK2 := Lib.hid (fun W h => held_call (X := w.heap.size) (g := w.heap.size) (w0 := w) (v0 := .int .u8 (f.ty : Int)) (v1 := .int .u8 (f.fl : Int)) (v2 := .int .u32 (f.st : Int)) (v3 := .string f.data) hX0 HK W h)
    clear HN HK
    go_region_held3 (fun w' => w'.cell? ⟨w.heap.size, 0, none⟩ = some (.int .u8 (f.ty : Int)) ∧ w'.cell? ⟨w.heap.size, 1, none⟩ = some (.int .u8 (f.fl : Int)) ∧ w'.cell? ⟨w.heap.size, 2, none⟩ = some (.int .u32 (f.st : Int)) ∧ w'.cell? ⟨w.heap.size, 3, none⟩ = some (.string f.data) ∧ Below w.heap.size w w') (go_keep) (first | (go_at_call 33; (with_reducible refine (HN2.out _ ?_).mono ?_); (simp [*]); rintro e w1 ⟨rfl, c0, c1, c2, c3, hB1⟩) | (go_at_call 32; (with_reducible refine (HK2.out _ ?_).mono ?_); (simp [*]); rintro e w2 ⟨rfl, d0, d1, d2, d3, hB2⟩))
    all_goals
      go_wp2_with fail
      go_ret
      exact ⟨rfl, by assumption⟩
  · skip
    have t0 : ((f.ty : Int) == 0) = false := beq_eq_false_iff_ne.2 (by omega)
    have t1 : ((f.ty : Int) == 1) = true := beq_iff_eq.2 (by omega)
    have hlen := siz_ahead hz.out (by omega)
    have hpd : padB f = true → 0 < f.data.size := siz_pad hz.out
    obtain ⟨k, hk⟩ : ∃ k, ahC f = k := ⟨_, rfl⟩
    obtain ⟨n, hn⟩ : ∃ n, beC f = n := ⟨_, rfl⟩
    rw [if_pos (by omega), hk, hn] at hqq
    rw [hk] at hlen
    have HK := Lib.hid (fun W : World => cahead_is f k W hf (Lib.hid hk))
    have HN := Lib.hid (fun W : World => cbehind_is f n W hf hpd (Lib.hid hn))
    have ews : IntKind.i64.wrap ((f.data.size : Int) - (k : Int)) = ((f.data.size - k : Nat) : Int) := by rw [IntKind.wrap_i64]; omega
    obtain ⟨m, hm⟩ : ∃ m, f.data.size - k = m := ⟨_, rfl⟩
    rw [hm] at ews hqq
    have s0 : decide ((m : Int) < (n : Int)) = q := by rw [← hqq, Bool.eq_iff_iff, decide_eq_true_iff, decide_eq_true_iff]; omega
    have s1 : decide (m < n) = q := hqq
    have hX0 : w.heap.size ≤ w.heap.size := Nat.le_refl _
    clear hqq ht hty hk hn hm hlen hpd hz
    go_upto_region 4 with fail
    have b0 := HB.out.drew
    have HN2 := Lib.hid (fun W h => held_call (X := w.heap.size) (g := w.heap.size) (w0 := w) (v0 := .int .u8 (f.ty : Int)) (v1 := .int .u8 (f.fl : Int)) (v2 := .int .u32 (f.st : Int)) (v3 := .string f.data) hX0 HN W h)
    have HK2 := Lib.hid (fun W h => held_call (X := w.heap.size) (g := w.heap.size) (w0 := w) (v0 := .int .u8 (f.ty : Int)) (v1 := .int .u8 (f.fl : Int)) (v2 := .int .u32 (f.st : Int)) (v3 := .string f.data) hX0 HK W h)
    clear HN HK
    go_region_held3 (fun w' => w'.cell? ⟨w.heap.size, 0, none⟩ = some (.int .u8 (f.ty : Int)) ∧ w'.cell? ⟨w.heap.size, 1, none⟩ = some (.int .u8 (f.fl : Int)) ∧ w'.cell? ⟨w.heap.size, 2, none⟩ = some (.int .u32 (f.st : Int)) ∧ w'.cell? ⟨w.heap.size, 3, none⟩ = some (.string f.data) ∧ Below w.heap.size w w') (go_keep) (first | (go_at_call 33; (with_reducible refine (HN2.out _ ?_).mono ?_); (simp [*]); rintro e w1 ⟨rfl, c0, c1, c2, c3, hB1⟩) | (go_at_call 32; (with_reducible refine (HK2.out _ ?_).mono ?_); (simp [*]); rintro e w2 ⟨rfl, d0, d1, d2, d3, hB2⟩))
    all_goals
      go_wp2_with fail
      go_ret
      exact ⟨rfl, by assumption⟩
  · skip
    have t0 : ((f.ty : Int) == 0) = false := beq_eq_false_iff_ne.2 (by omega)
    have t1 : ((f.ty : Int) == 1) = false := beq_eq_false_iff_ne.2 (by omega)
    have t8 : ((f.ty : Int) == 8) = true := beq_iff_eq.2 (by omega)
    rw [if_neg (by omega), if_pos ht] at hqq
    have h4 := con_size hz.out ht
    obtain ⟨M, hM⟩ : ∃ M, gN f.data 0 4 % 2147483648 = M := ⟨_, rfl⟩
    have hMb : M < 2147483648 := by omega
    have HW := Lib.hid (fun W : World => cword_is f.data 0 M W hs (by omega) (Lib.hid hM))
    rw [hM] at hqq
    by_cases hst0 : f.st = 0
    · have s0 : ((f.st : Int) == 0) = true := beq_iff_eq.2 (by omega)
      have s1 : decide ((f.st : Int) = 0) = true := decide_eq_true (by omega)
      rw [decide_eq_true hst0, Bool.true_and] at hqq
      have m0 : ((M : Int) == 0) = q := by rw [← hqq, Bool.eq_iff_iff, beq_iff_eq, decide_eq_true_iff]; omega
      have m1 : decide ((M : Int) = 0) = q := by rw [← m0]; rfl
      clear hqq ht hty h4 hM hst0 hz
      go_wp2_with fail
      refine (HW.out _).mono ?_
      rintro e w1 ⟨rfl, rfl⟩
      go_wp2_with fail
      go_ret
      exact ⟨rfl, HB.out⟩
    · have s0 : ((f.st : Int) == 0) = false := beq_eq_false_iff_ne.2 (by omega)
      have s1 : decide ((f.st : Int) = 0) = false := decide_eq_false (by omega)
      rw [decide_eq_false hst0, Bool.false_and] at hqq
      subst hqq
      clear ht hty h4 hM hst0 hz
      go_wp2_with fail
      go_ret
      exact ⟨rfl, HB.out⟩
  · skip
    have t0 : ((f.ty : Int) == 0) = false := beq_eq_false_iff_ne.2 (by omega)
    have t1 : ((f.ty : Int) == 1) = false := beq_eq_false_iff_ne.2 (by omega)
    have t8 : ((f.ty : Int) == 8) = false := beq_eq_false_iff_ne.2 (by omega)
    rw [if_neg (by omega), if_neg (by omega)] at hqq
    subst hqq
    clear ht hty hz
    go_wp2_with fail
    go_ret
    exact ⟨rfl, HB.out⟩

set_option maxHeartbeats 8000000 in
set_option maxRecDepth 100000 in
theorem ccon_is (f : Frm) (c : Nat) (w : World) (hf : Okf f) (hs : f.data.size ≤ 1000000) (hc : Hid (conC f = c)) :
    Calls Try.prog 26 #[.agg #[.int .u8 (f.ty : Int), .int .u8 (f.fl : Int), .int .u32 (f.st : Int), .string f.data]] w fun e w' => e = .returned (.int .u32 (c : Int)) ∧ Below w.heap.size w w' := by
  obtain ⟨hX, hB⟩ := boxF_new w f
  have HX := Lib.hid hX
  have HB := Lib.hid hB
  have hty := hf.ty
  have hst := hf.st
  clear hX hB
  obtain ⟨a0, a1, a2, a3⟩ := HX.out.c
  have hcc := hc.out
  unfold conC at hcc
  clear hc
  obtain ⟨p, hp⟩ : ∃ p, misB f = p := ⟨_, rfl⟩
  obtain ⟨r, hr⟩ : ∃ r, sizB f = r := ⟨_, rfl⟩
  obtain ⟨q, hq⟩ : ∃ q, filB f = q := ⟨_, rfl⟩
  rw [hp, hr, hq] at hcc
  have HP := Lib.hid hp
  have HR := Lib.hid hr
  have HQ := Lib.hid hq
  clear hp hr hq
  go_enter Try.func26, Try.ntmps26
  go_upto_region 1 with fail
  generalize w.alloc (.cells #[.int .u8 (f.ty : Int), .int .u8 (f.fl : Int), .int .u32 (f.st : Int), .string f.data] 24) = W at *
  go_wp2_with fail
  refine (cmis_is f p W hf HP).mono ?_
  rintro e w1 ⟨rfl, hB1⟩
  have HX1 := Lib.hid (HX.out.below hB1)
  have HB1 := Lib.hid (HB.out.trans (hB1.mono HB.out.size))
  clear hB1 a0 a1 a2 a3
  obtain ⟨a0, a1, a2, a3⟩ := HX1.out.c
  cases p with
  | true =>
    simp only [if_true] at hcc
    subst hcc
    go_wp2_with fail
    go_ret
    exact ⟨rfl, HB1.out⟩
  | false =>
    rw [if_neg (by decide)] at hcc
    go_wp2_with fail
    refine (csiz_is f r w1 hf hs HR).mono ?_
    rintro e w2 ⟨rfl, hB2⟩
    have HX2 := Lib.hid (HX1.out.below hB2)
    have HB2 := Lib.hid (HB1.out.trans (hB2.mono HB1.out.size))
    clear hB2 a0 a1 a2 a3
    obtain ⟨a0, a1, a2, a3⟩ := HX2.out.c
    cases r with
    | true =>
      simp only [if_true] at hcc
      subst hcc
      go_wp2_with fail
      go_ret
      exact ⟨rfl, HB2.out⟩
    | false =>
      rw [if_neg (by decide)] at hcc
      go_wp2_with fail
      refine (cfil_is f q w2 hf hs HR HQ).mono ?_
      rintro e w3 ⟨rfl, hB3⟩
      have HX3 := Lib.hid (HX2.out.below hB3)
      have HB3 := Lib.hid (HB2.out.trans (hB3.mono HB2.out.size))
      clear hB3 a0 a1 a2 a3
      obtain ⟨a0, a1, a2, a3⟩ := HX3.out.c
      cases q with
      | true =>
        simp only [if_true] at hcc
        subst hcc
        go_wp2_with fail
        go_ret
        exact ⟨rfl, HB3.out⟩
      | false =>
        rw [if_neg (by decide)] at hcc
        subst hcc
        go_wp2_with fail
        go_ret
        exact ⟨rfl, HB3.out⟩

set_option maxHeartbeats 8000000 in
set_option maxRecDepth 100000 in
theorem cstr_is (f : Frm) (c : Nat) (w : World) (hf : Okf f) (hs : f.data.size ≤ 1000000) (hc0 : Hid (conC f = 0)) (hc : Hid (strC f = c)) :
    Calls Try.prog 27 #[.agg #[.int .u8 (f.ty : Int), .int .u8 (f.fl : Int), .int .u32 (f.st : Int), .string f.data]] w fun e w' => e = .returned (.int .u32 (c : Int)) ∧ Below w.heap.size w w' := by
  obtain ⟨hX, hB⟩ := boxF_new w f
  have HX := Lib.hid hX
  have HB := Lib.hid hB
  have hty := hf.ty
  have hst := hf.st
  clear hX hB
  obtain ⟨a0, a1, a2, a3⟩ := HX.out.c
  have hcc := hc.out
  unfold strC at hcc
  have hsz := (con_zero hc0.out).2.1
  obtain ⟨p, hp⟩ : ∃ p, priB f = p := ⟨_, rfl⟩
  obtain ⟨k, hk⟩ : ∃ k, ahC f = k := ⟨_, rfl⟩
  have HP := Lib.hid (fun W : World => cpri_is f p W hf (Lib.hid hp))
  have HK := Lib.hid (fun W : World => cahead_is f k W hf (Lib.hid hk))
  obtain ⟨b1, hb1⟩ : ∃ b1, (decide (f.ty = 2) && decide (f.data.size ≠ 5)) = b1 := ⟨_, rfl⟩
  have hk5 : b1 = false → p = true → 5 ≤ k ∧ k ≤ f.data.size := fun e1 e2 => by
    rw [← hb1] at e1
    rw [← hp] at e2
    have hk2 := hk
    unfold ahC at hk2
    rw [e2, if_pos (c := true = true) rfl] at hk2
    refine ⟨by split at hk2 <;> omega, ?_⟩
    unfold priB at e2
    rw [Bool.or_eq_true, decide_eq_true_iff, Bool.and_eq_true, decide_eq_true_iff] at e2
    rcases e2 with e2 | e2
    · rw [decide_eq_true e2, Bool.true_and] at e1
      have h5 : f.data.size = 5 := Decidable.of_not_not (of_decide_eq_false e1)
      have : padB f = false := by unfold padB; rw [decide_eq_false (by omega), Bool.false_and]
      rw [this] at hk2
      simp at hk2
      omega
    · rw [← hk]; exact siz_ahead hsz (by omega)
  have h84 : f.ty = 8 → f.data.size = 4 := con_size hsz
  have hcc2 : c = if b1 = true then 6 else if p = true ∧ gN f.data (k - 5) 4 % 2147483648 = f.st then 1 else if f.ty = 8 ∧ gN f.data 0 4 % 2147483648 = 0 then 1 else 0 := by
    rw [← hcc, hp, hk, ← hb1]
    by_cases e1 : f.ty = 2 <;> by_cases e2 : f.data.size = 5 <;> simp [e1, e2]
  have HCC := Lib.hid hcc2
  have HK5 := Lib.hid hk5
  have H84 := Lib.hid h84
  clear hcc hcc2 hk5 h84 hk hp hc hsz hc0
  go_enter Try.func27, Try.ntmps27
  go_upto_region 1 with fail
  generalize w.alloc (.cells #[.int .u8 (f.ty : Int), .int .u8 (f.fl : Int), .int .u32 (f.st : Int), .string f.data] 24) = W at *
  go_cut [3] from 3 to 12 (fun s wx => s = .bool b1 ∧ W = wx)
  case first =>
    by_cases h2 : f.ty = 2
    · have t2 : ((f.ty : Int) == 2) = true := beq_iff_eq.2 (by omega)
      rw [decide_eq_true h2, Bool.true_and] at hb1
      have s5 : ((f.data.size : Int) != 5) = b1 := by rw [← hb1, Bool.eq_iff_iff, bne_iff_ne, decide_eq_true_iff]; omega
      clear hb1 h2 hty
      go_wp2_with fail
      go_meet
      exact ⟨rfl, rfl⟩
    · have t2 : ((f.ty : Int) == 2) = false := beq_eq_false_iff_ne.2 (by omega)
      rw [decide_eq_false h2, Bool.false_and] at hb1
      subst hb1
      clear h2 hty
      go_wp2_with fail
      go_meet
      exact ⟨rfl, rfl⟩
  case rest =>
    obtain ⟨rfl, rfl⟩ := hcut
    clear hb1
    cases b1 with
    | true =>
      obtain rfl : c = 6 := by rw [HCC.out, if_pos rfl]
      go_wp2_with fail
      go_ret
      exact ⟨rfl, HB.out⟩
    | false =>
      obtain ⟨q3, hq3⟩ : ∃ q3, (p && decide (gN f.data (k - 5) 4 % 2147483648 = f.st)) = q3 := ⟨_, rfl⟩
      have hcc3 : c = if q3 = true then 1 else if f.ty = 8 ∧ gN f.data 0 4 % 2147483648 = 0 then 1 else 0 := by
        rw [HCC.out, if_neg (by decide), ← hq3]
        cases p <;> simp
      have HC3 := Lib.hid hcc3
      have HX1d := Lib.hid (HX.out.below (Below.refl _ W).drew)
      have HB1d := Lib.hid (HB.out.drew)
      clear hcc3 HCC
      go_upto_region 3 with fail
      clear a0 a1 a2 a3
      obtain ⟨a0, a1, a2, a3⟩ := HX1d.out.c
      go_cut [13] from 13 to 26 (fun s wx => s = .bool q3 ∧ Hid (BoxF wx w.heap.size f) ∧ Hid (Below w.heap.size w wx))
      case first =>
        cases p with
        | true =>
          obtain ⟨hk5, hks⟩ := HK5.out rfl rfl
          have ewk5 : IntKind.i64.wrap ((k : Int) - 5) = ((k - 5 : Nat) : Int) := by rw [IntKind.wrap_i64]; omega
          obtain ⟨k5, hk5e⟩ : ∃ z, k - 5 = z := ⟨_, rfl⟩
          rw [hk5e] at ewk5 hq3
          obtain ⟨M, hM⟩ : ∃ M, gN f.data k5 4 % 2147483648 = M := ⟨_, rfl⟩
          have HW := Lib.hid (fun W : World => cword_is f.data k5 M W hs (by omega) (Lib.hid hM))
          rw [Bool.true_and, hM] at hq3
          have s0 : ((M : Int) == (f.st : Int)) = q3 := by rw [← hq3, Bool.eq_iff_iff, beq_iff_eq, decide_eq_true_iff]; omega
          have s1 : decide ((M : Int) = (f.st : Int)) = q3 := by rw [← s0]; rfl
          have s2 : decide (M = f.st) = q3 := hq3
          clear hq3 hk5e hM HK5 hks
          first | go_region_with (first | (go_at_call 45; refine (HP.out _).mono ?_; rintro e w2 ⟨rfl, hB2⟩; have HX2 := Lib.hid (HX1d.out.below hB2); have HB2 := Lib.hid (HB1d.out.trans (hB2.mono HB1d.out.size)); clear hB2; (obtain ⟨b0, b1, b2, b3⟩ := HX2.out.c)) | (go_at_call 32; refine (HK.out _).mono ?_; rintro e w3 ⟨rfl, hB3⟩; have HX3 := Lib.hid (HX2.out.below hB3); have HB3 := Lib.hid (HB2.out.trans (hB3.mono HB2.out.size)); clear hB3; (obtain ⟨d0, d1, d2, d3⟩ := HX3.out.c)) | (go_at_call 23; refine (HW.out _).mono ?_; rintro e w4 ⟨rfl, hw4⟩; subst hw4))
          all_goals
            go_wp2_with fail
            go_meet
            exact ⟨rfl, HX3, HB3⟩
        | false =>
          rw [Bool.false_and] at hq3
          subst hq3
          refine wp_region_any (by kernel_rfl) ?_
          change wpAny _ _ _ _ _ _ _ (World.drew _)
          refine wpAny_ready (rs := [0]) (by kernel_rfl) (by simp) ?_
          refine AllReady.cons rfl (fun K hK => ?_) AllReady.nil
          go_simp
          refine hK _ _ ?_
          clear hK K
          refine wpAny_ready (rs := [1]) (by kernel_rfl) (by simp) ?_
          refine AllReady.cons rfl (fun K hK => ?_) AllReady.nil
          go_simp
          refine (HP.out _).mono ?_
          rintro e w2 ⟨rfl, hB2⟩
          have HX2 := Lib.hid (HX1d.out.below hB2)
          have HB2 := Lib.hid (HB1d.out.trans (hB2.mono HB1d.out.size))
          clear hB2
          refine hK _ _ ?_
          clear hK K
          refine wpAny_ready (rs := [2]) (by kernel_rfl) (by simp) ?_
          refine AllReady.cons rfl (fun K hK => ?_) AllReady.nil
          go_simp
          refine hK _ _ ?_
          clear hK K
          refine wpAny_take (i := 3) (v := undef) rfl (by kernel_rfl) (by kernel_rfl) (by kernel_rfl) (fun _ _ _ h => h) (Or.inr ⟨by kernel_rfl, rfl⟩) ?_
          refine wpAny_take (i := 4) (v := undef) rfl (by kernel_rfl) (by kernel_rfl) (by kernel_rfl) (fun _ _ _ h => h) (Or.inr ⟨by kernel_rfl, rfl⟩) ?_
          refine wpAny_take (i := 5) (v := undef) rfl (by kernel_rfl) (by kernel_rfl) (by kernel_rfl) (fun _ _ _ h => h) (Or.inr ⟨by kernel_rfl, rfl⟩) ?_
          refine wpAny_take (i := 6) (v := undef) rfl (by kernel_rfl) (by kernel_rfl) (by kernel_rfl) (fun _ _ _ h => h) (Or.inr ⟨by kernel_rfl, rfl⟩) ?_
          refine wpAny_take (i := 7) (v := undef) rfl (by kernel_rfl) (by kernel_rfl) (by kernel_rfl) (fun _ _ _ h => h) (Or.inr ⟨by kernel_rfl, rfl⟩) ?_
          refine wpAny_take (i := 8) (v := undef) rfl (by kernel_rfl) (by kernel_rfl) (by kernel_rfl) (fun _ _ _ h => h) (Or.inr ⟨by kernel_rfl, rfl⟩) ?_
          refine wpAny_take (i := 9) (v := undef) rfl (by kernel_rfl) (by kernel_rfl) (by kernel_rfl) (fun _ _ _ h => h) (Or.inr ⟨by kernel_rfl, rfl⟩) ?_
          refine wpAny_take (i := 10) (v := undef) rfl (by kernel_rfl) (by kernel_rfl) (by kernel_rfl) (fun _ _ _ h => h) (Or.inr ⟨by kernel_rfl, rfl⟩) ?_
          refine wpAny_take (i := 11) (v := undef) rfl (by kernel_rfl) (by kernel_rfl) (by kernel_rfl) (fun _ _ _ h => h) (Or.inr ⟨by kernel_rfl, rfl⟩) ?_
          refine wpAny_ready (rs := [12]) (by kernel_rfl) (by simp) ?_
          refine AllReady.cons rfl (fun K hK => ?_) AllReady.nil
          go_simp
          refine hK _ _ ?_
          clear hK K
          refine wpAny_ready (rs := [13]) (by kernel_rfl) (by simp) ?_
          refine AllReady.cons rfl (fun K hK => ?_) AllReady.nil
          go_simp
          refine hK _ _ ?_
          clear hK K
          refine wpAny_done (by kernel_rfl) ?_ _
          go_wp2_with fail
          go_meet
          exact ⟨rfl, HX2, HB2⟩
      case rest =>
        obtain ⟨rfl, HX2, HB2⟩ := hcut
        generalize wc = w2 at *
        clear a0 a1 a2 a3 HX1d HB1d hq3 HK5
        obtain ⟨a0, a1, a2, a3⟩ := HX2.out.c
        cases q3 with
        | true =>
          obtain rfl : c = 1 := by rw [HC3.out, if_pos rfl]
          go_wp2_with fail
          go_ret
          exact ⟨rfl, HB2.out⟩
        | false =>
          by_cases h8 : f.ty = 8
          · have t8 : ((f.ty : Int) == 8) = true := beq_iff_eq.2 (by omega)
            have h4 := H84.out h8
            obtain ⟨M, hM⟩ : ∃ M, gN f.data 0 4 % 2147483648 = M := ⟨_, rfl⟩
            have HW := Lib.hid (fun W : World => cword_is f.data 0 M W hs (by omega) (Lib.hid hM))
            have hcM := HC3.out
            rw [if_neg (by decide), hM] at hcM
            by_cases hm0 : M = 0
            · obtain rfl : c = 1 := by rw [hcM, if_pos ⟨h8, hm0⟩]
              subst hm0
              clear hcM h8 hty h4 hM
              go_wp2_with fail
              refine (HW.out _).mono ?_
              rintro e w3 ⟨rfl, rfl⟩
              go_wp2_with fail
              go_ret
              exact ⟨rfl, HB2.out⟩
            · obtain rfl : c = 0 := by rw [hcM, if_neg (by intro h; exact hm0 h.2)]
              have m0 : ((M : Int) == 0) = false := beq_eq_false_iff_ne.2 (by omega)
              have m1 : decide ((M : Int) = 0) = false := decide_eq_false (by omega)
              clear hcM h8 hty h4 hM
              go_wp2_with fail
              refine (HW.out _).mono ?_
              rintro e w3 ⟨rfl, rfl⟩
              go_wp2_with fail
              go_ret
              exact ⟨rfl, HB2.out⟩
          · have t8 : ((f.ty : Int) == 8) = false := beq_eq_false_iff_ne.2 (by omega)
            obtain rfl : c = 0 := by rw [HC3.out, if_neg (by decide), if_neg (by intro h; exact h8 h.1)]
            clear h8 hty
            go_wp2_with fail
            go_ret
            exact ⟨rfl, HB2.out⟩

set_option maxHeartbeats 8000000 in
set_option maxRecDepth 100000 in
theorem cwrong_is (f : Frm) (R1 R2 : Nat) (w : World) (hf : Okf f) (hs : f.data.size ≤ 1000000) (hR : Hid (wrongF f = (R1, R2))) :
    Calls Try.prog 13 #[.agg #[.int .u8 (f.ty : Int), .int .u8 (f.fl : Int), .int .u32 (f.st : Int), .string f.data]] w fun e w' => e = .returned (.tuple #[.int .i64 (R1 : Int), .int .u32 (R2 : Int)]) ∧ Below w.heap.size w w' := by
  obtain ⟨hX, hB⟩ := boxF_new w f
  have HX := Lib.hid hX
  have HB := Lib.hid hB
  have hty := hf.ty
  have hst := hf.st
  clear hX hB
  obtain ⟨a0, a1, a2, a3⟩ := HX.out.c
  have hRR := hR.out
  rw [wrong_by] at hRR
  obtain ⟨c, hc⟩ : ∃ c, conC f = c := ⟨_, rfl⟩
  obtain ⟨d, hd⟩ : ∃ d, strC f = d := ⟨_, rfl⟩
  rw [hc, hd] at hRR
  have hcl : c ≤ 6 := by rw [← hc]; exact con_le f
  have hdl : d ≤ 6 := by rw [← hd]; exact str_le f
  have HC := Lib.hid hc
  have HD := Lib.hid hd
  clear hc hd hR
  go_enter Try.func13, Try.ntmps13
  go_upto_region 1 with fail
  generalize w.alloc (.cells #[.int .u8 (f.ty : Int), .int .u8 (f.fl : Int), .int .u32 (f.st : Int), .string f.data] 24) = W at *
  go_wp2_with fail
  refine (ccon_is f c W hf hs HC).mono ?_
  rintro e w1 ⟨rfl, hB1⟩
  have HX1 := Lib.hid (HX.out.below hB1)
  have HB1 := Lib.hid (HB.out.trans (hB1.mono HB.out.size))
  clear hB1 a0 a1 a2 a3
  obtain ⟨a0, a1, a2, a3⟩ := HX1.out.c
  by_cases hc0 : c = 0
  · have c0 : ((c : Int) != 0) = false := bne_eq_false_iff_eq.2 (by omega)
    rw [if_neg (by omega)] at hRR
    have HC0 : Hid (conC f = 0) := Lib.hid (by rw [HC.out, hc0])
    clear hc0
    go_wp2_with fail
    refine (cstr_is f d w1 hf hs HC0 HD).mono ?_
    rintro e w2 ⟨rfl, hB2⟩
    have HX2 := Lib.hid (HX1.out.below hB2)
    have HB2 := Lib.hid (HB1.out.trans (hB2.mono HB1.out.size))
    clear hB2 a0 a1 a2 a3
    obtain ⟨a0, a1, a2, a3⟩ := HX2.out.c
    by_cases hd0 : d = 0
    · have d0 : ((d : Int) != 0) = false := bne_eq_false_iff_eq.2 (by omega)
      rw [if_neg (by omega)] at hRR
      injection hRR with e1 e2
      subst e1 e2
      clear hd0
      go_wp2_with fail
      go_ret2
      exact ⟨rfl, HB2.out⟩
    · have d0 : ((d : Int) != 0) = true := bne_iff_ne.2 (by omega)
      rw [if_pos hd0] at hRR
      injection hRR with e1 e2
      subst e1 e2
      clear hd0
      go_wp2_with fail
      go_ret2
      exact ⟨rfl, HB2.out⟩
  · have c0 : ((c : Int) != 0) = true := bne_iff_ne.2 (by omega)
    rw [if_pos hc0] at hRR
    injection hRR with e1 e2
    subst e1 e2
    clear hc0
    go_wp2_with fail
    go_ret2
    exact ⟨rfl, HB1.out⟩

set_option maxHeartbeats 8000000 in
set_option maxRecDepth 100000 in
theorem ccont_is (f : Frm) (r : ByteArray) (w : World) (hf : Okf f) (hs : f.data.size ≤ 1000000) (hr : Hid (contentF f = r)) :
    Calls Try.prog 15 #[.agg #[.int .u8 (f.ty : Int), .int .u8 (f.fl : Int), .int .u32 (f.st : Int), .string f.data]] w fun e w' => e = .returned (.string r) ∧ Below w.heap.size w w' := by
  obtain ⟨hX, hB⟩ := boxF_new w f
  have HX := Lib.hid hX
  have HB := Lib.hid hB
  have hty := hf.ty
  have hst := hf.st
  clear hX hB
  obtain ⟨a0, a1, a2, a3⟩ := HX.out.c
  have hrr := hr.out
  unfold contentF at hrr
  obtain ⟨c, hc⟩ : ∃ c, conC f = c := ⟨_, rfl⟩
  have hcl : c ≤ 6 := by rw [← hc]; exact con_le f
  have hw2 : (wrongF f).1 = 2 ↔ c ≠ 0 := by
    rw [wrong_by, hc]
    by_cases h : c = 0
    · subst h
      rw [if_neg (by omega)]
      constructor
      · intro h2
        split at h2 <;> cases h2
      · intro h2; exact absurd rfl h2
    · rw [if_pos h]
      simp [h]
  have HC := Lib.hid hc
  have HCL := Lib.hid (fun (x : ByteArray) (W : World) (h : x.size ≤ 1000000) => clone_any x W h)
  clear hr hc
  go_enter Try.func15, Try.ntmps15
  go_upto_region 1 with fail
  generalize w.alloc (.cells #[.int .u8 (f.ty : Int), .int .u8 (f.fl : Int), .int .u32 (f.st : Int), .string f.data] 24) = W at *
  go_wp2_with fail
  refine (ccon_is f c W hf hs HC).mono ?_
  rintro e w1 ⟨rfl, hB1⟩
  have HX1 := Lib.hid (HX.out.below hB1)
  have HB1 := Lib.hid (HB.out.trans (hB1.mono HB.out.size))
  clear hB1 a0 a1 a2 a3
  obtain ⟨a0, a1, a2, a3⟩ := HX1.out.c
  by_cases hc0 : c = 0
  · have c0 : ((c : Int) != 0) = false := bne_eq_false_iff_eq.2 (by omega)
    have HC0 : Hid (conC f = 0) := Lib.hid (by rw [HC.out, hc0])
    by_cases ht : 1 < f.ty
    · have t0 : ((f.ty : Int) != 0) = true := bne_iff_ne.2 (by omega)
      have t1 : ((f.ty : Int) != 1) = true := bne_iff_ne.2 (by omega)
      rw [if_pos (.inl ht)] at hrr
      subst hrr
      clear hc0 hw2 ht hty
      go_wp2_with fail
      refine (HCL.out _ _ hs).mono ?_
      rintro e w2 ⟨rfl, hB2⟩
      have HB2 := Lib.hid (HB1.out.trans (hB2.mono HB1.out.size))
      clear hB2
      go_wp2_with fail
      go_ret
      exact ⟨rfl, HB2.out⟩
    rw [if_neg (by rintro (h | h); exact ht h; exact hw2.1 h hc0)] at hrr
    have ha := ahC_01 (f := f) (by omega)
    have hb := beC_01 (f := f) (by omega)
    have hsz := (con_zero HC0.out).2.1
    have hpl := pad_le (f := f) (by omega) (fun h => hw2.1 h hc0)
    obtain ⟨k, hk⟩ : ∃ k, ahC f = k := ⟨_, rfl⟩
    obtain ⟨n, hn⟩ : ∃ n, beC f = n := ⟨_, rfl⟩
    rw [← ha, ← hb, hk, hn] at hpl hrr
    have hpd : padB f = true → 0 < f.data.size := siz_pad hsz
    have HK := Lib.hid (fun W : World => cahead_is f k W hf (Lib.hid hk))
    have HN := Lib.hid (fun W : World => cbehind_is f n W hf hpd (Lib.hid hn))
    have ews : IntKind.i64.wrap ((f.data.size : Int) - (n : Int)) = ((f.data.size - n : Nat) : Int) := by rw [IntKind.wrap_i64]; omega
    obtain ⟨m, hm⟩ : ∃ m, f.data.size - n = m := ⟨_, rfl⟩
    rw [hm] at ews hrr
    have q1 : (0 : Int) ≤ (k : Int) := by omega
    have q2 : (k : Int) ≤ (m : Int) := by omega
    have q3 : (m : Int) ≤ (f.data.size : Int) := by omega
    have hrs : r.size ≤ 1000000 := by rw [← hrr, ByteArray.size_extract]; omega
    have HCX := Lib.hid (fun W : World => clone_any r W hrs)
    rw [← hrr] at HCX
    have hX0 : w.heap.size ≤ w.heap.size := Nat.le_refl _
    have HN2 := Lib.hid (fun W h => held_call (X := w.heap.size) (g := w.heap.size) (w0 := w) (v0 := .int .u8 (f.ty : Int)) (v1 := .int .u8 (f.fl : Int)) (v2 := .int .u32 (f.st : Int)) (v3 := .string f.data) hX0 HN W h)
    have HK2 := Lib.hid (fun W h => held_call (X := w.heap.size) (g := w.heap.size) (w0 := w) (v0 := .int .u8 (f.ty : Int)) (v1 := .int .u8 (f.fl : Int)) (v2 := .int .u32 (f.st : Int)) (v3 := .string f.data) hX0 HK W h)
    have HC2 := Lib.hid (fun W h => held_call (X := w.heap.size) (g := w.heap.size) (w0 := w) (v0 := .int .u8 (f.ty : Int)) (v1 := .int .u8 (f.fl : Int)) (v2 := .int .u32 (f.st : Int)) (v3 := .string f.data) hX0 HCX W h)
    have b0 := HB1.out.drew
    subst hrr
    have e2 : f.ty = 0 ∨ f.ty = 1 := by omega
    clear hc0 hw2 hsz hpl hpd hk hn hm ha hb HN HK HCX HCL hrs
    rcases e2 with ht0 | ht1
    · have t0 : ((f.ty : Int) != 0) = false := bne_eq_false_iff_eq.2 (by omega)
      clear ht ht0 hty
      go_upto_region 3 with fail
      go_region_held3 (fun w' => w'.cell? ⟨w.heap.size, 0, none⟩ = some (.int .u8 (f.ty : Int)) ∧ w'.cell? ⟨w.heap.size, 1, none⟩ = some (.int .u8 (f.fl : Int)) ∧ w'.cell? ⟨w.heap.size, 2, none⟩ = some (.int .u32 (f.st : Int)) ∧ w'.cell? ⟨w.heap.size, 3, none⟩ = some (.string f.data) ∧ Below w.heap.size w w') (go_keep) (first | (go_at_call 33; (with_reducible refine (HN2.out _ ?_).mono ?_); (simp [*]); rintro e w2 ⟨rfl, c0, c1, c2, c3, hB2⟩) | (go_at_call 32; (with_reducible refine (HK2.out _ ?_).mono ?_); (simp [*]); rintro e w3 ⟨rfl, d0, d1, d2, d3, hB3⟩) | (go_at_call 31; (with_reducible refine (HC2.out _ ?_).mono ?_); (simp [*]); rintro e w4 ⟨rfl, g0, g1, g2, g3, hB4⟩))
      all_goals
        go_wp2_with fail
        go_ret
        exact ⟨rfl, hB4⟩
    · have t0 : ((f.ty : Int) != 0) = true := bne_iff_ne.2 (by omega)
      have t1 : ((f.ty : Int) != 1) = false := bne_eq_false_iff_eq.2 (by omega)
      clear ht ht1 hty
      go_upto_region 3 with fail
      go_region_held3 (fun w' => w'.cell? ⟨w.heap.size, 0, none⟩ = some (.int .u8 (f.ty : Int)) ∧ w'.cell? ⟨w.heap.size, 1, none⟩ = some (.int .u8 (f.fl : Int)) ∧ w'.cell? ⟨w.heap.size, 2, none⟩ = some (.int .u32 (f.st : Int)) ∧ w'.cell? ⟨w.heap.size, 3, none⟩ = some (.string f.data) ∧ Below w.heap.size w w') (go_keep) (first | (go_at_call 33; (with_reducible refine (HN2.out _ ?_).mono ?_); (simp [*]); rintro e w2 ⟨rfl, c0, c1, c2, c3, hB2⟩) | (go_at_call 32; (with_reducible refine (HK2.out _ ?_).mono ?_); (simp [*]); rintro e w3 ⟨rfl, d0, d1, d2, d3, hB3⟩) | (go_at_call 31; (with_reducible refine (HC2.out _ ?_).mono ?_); (simp [*]); rintro e w4 ⟨rfl, g0, g1, g2, g3, hB4⟩))
      all_goals
        go_wp2_with fail
        go_ret
        exact ⟨rfl, hB4⟩
  · have c0 : ((c : Int) != 0) = true := bne_iff_ne.2 (by omega)
    rw [if_pos (.inr (hw2.2 hc0))] at hrr
    subst hrr
    clear hc0 hw2 hty
    go_wp2_with fail
    refine (HCL.out _ _ hs).mono ?_
    rintro e w2 ⟨rfl, hB2⟩
    have HB2 := Lib.hid (HB1.out.trans (hB2.mono HB1.out.size))
    clear hB2
    go_wp2_with fail
    go_ret
    exact ⟨rfl, HB2.out⟩

end Go.Proofs.Ytfgeapoojogdbaa
