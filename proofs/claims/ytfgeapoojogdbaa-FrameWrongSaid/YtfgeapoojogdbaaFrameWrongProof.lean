import Derived.Test.YtfgeapoojogdbaaRows
import Derived.Test.YtfgeapoojogdbaaProg
import Derived.Test.YtfgeapoojogdbaaBytes
import Derived.Test.YtfgeapoojogdbaaNumBe
import Derived.Test.YtfgeapoojogdbaaFrMath
import Derived.Test.YtfgeapoojogdbaaFrFrame
import Derived.Test.YtfgeapoojogdbaaFrRef
import Derived.Test.YtfgeapoojogdbaaFrRefW
import Derived.Test.YtfgeapoojogdbaaFrRefC
import Derived.Test.YtfgeapoojogdbaaFrMake
import Derived.Test.YtfgeapoojogdbaaFrCode
import Derived.Test.YtfgeapoojogdbaaFrAwake
import Derived.Deep.CutRange
import Derived.Deep.RegionWith
import Derived.Lib.Hide
import Derived.Outline
import Derived.IntWalk
import Derived.WalkSpells
import Derived.WalkLawsBesides
import Derived.Laws.Rows
import Derived.WalkKit
import Derived.ProofKit
import Derived.OpenShut
import Derived.ShutString
import Derived.ChangeOld
import Derived.Below
namespace Go.Proofs.Ytfgeapoojogdbaa.frameWrong
open Go Go.ChangeShapes Go.WideShapes Go.ChangeAt Go.RowKit Bytes Fr
open Go.ChangeMaps (open_string shut_string)
set_option linter.unusedVariables false

theorem own : ownKnob Try.prog.godebug = none := by kernel_rfl
theorem laidOut : laidOutB Try.prog = true := by kernel_rfl

set_option maxHeartbeats 8000000 in
set_option maxRecDepth 100000 in
theorem walk (f0 : Frm) (w : World) (hf0 : Okf f0) (hd0 : f0.data.size ≤ maxLen) :
    Calls Try.prog 4 #[.agg #[.int .u8 (f0.ty : Int), .int .u8 (f0.fl : Int), .int .u32 (f0.st : Int), .string f0.data]] w fun e w' => e = .returned (.bool true) ∧ Below w.heap.size w w' := by
  obtain ⟨hX0, hB0⟩ := boxF_new w f0
  obtain ⟨X, hX⟩ : ∃ X, w.heap.size = X := ⟨_, rfl⟩
  have HX0 := Lib.hid (hX ▸ hX0)
  have HB0 := Lib.hid hB0
  clear hX0 hB0
  go_enter Try.func4, Try.ntmps4
  go_upto_region 1 with fail
  generalize w.alloc (.cells #[.int .u8 (f0.ty : Int), .int .u8 (f0.fl : Int), .int .u32 (f0.st : Int), .string f0.data] 24) = W at *
  clear hX
  go_wp2_with fail
  refine (awake_is W).mono ?_
  rintro e w1 ⟨rfl, hB1⟩
  have HB1 := Lib.hid (HB0.out.trans (hB1.mono HB0.out.size))
  have HX1 := Lib.hid (HX0.out.below hB1)
  clear hB1 HX0 HB0
  obtain ⟨a0, a1, a2, a3⟩ := HX1.out.c
  by_cases hbig2 : 40000 < f0.data.size
  · have b2 : (40000 : Int) < (f0.data.size : Int) := by omega
    go_wp2_with fail
    go_ret
    exact ⟨rfl, HB1.out⟩
  have b2 : ¬ ((40000 : Int) < (f0.data.size : Int)) := by omega
  have b2d : decide ((40000 : Int) < (f0.data.size : Int)) = false := decide_eq_false b2
  obtain ⟨⟨R1, R2⟩, hw⟩ : ∃ z, wrongF f0 = z := ⟨_, rfl⟩
  obtain ⟨r, hr⟩ : ∃ r, contentF f0 = r := ⟨_, rfl⟩
  have hw2 : R2 ≤ 6 := wrong_code hw
  have HW := Lib.hid hw
  have HRR := Lib.hid hr
  have hd2 : f0.data.size ≤ 1000000 := by omega
  clear hw hr hbig2
  go_wp2_with fail
  refine (cwrong_is f0 R1 R2 w1 hf0 hd2 HW).mono ?_
  rintro e w2 ⟨rfl, hB2⟩
  have HX2 := Lib.hid (HX1.out.below hB2)
  have HB2 := Lib.hid (HB1.out.trans (hB2.mono HB1.out.size))
  clear hB2 a0 a1 a2 a3
  obtain ⟨a0, a1, a2, a3⟩ := HX2.out.c
  go_wp2_with fail
  refine (fwrong_is f0 R1 R2 w2 hf0 hd2 HW).mono ?_
  rintro e w3 ⟨rfl, hB3⟩
  have HX3 := Lib.hid (HX2.out.below (hB3.trans (Below.refl _ w3).drew))
  have HB3 := Lib.hid (HB2.out.trans ((hB3.trans (Below.refl _ w3).drew).mono HB2.out.size))
  clear hB3 a0 a1 a2 a3
  obtain ⟨a0, a1, a2, a3⟩ := HX3.out.c
  have ew : IntKind.i64.wrap (R2 : Int) = (R2 : Int) := by rw [IntKind.wrap_i64]; omega
  have frr : (r.toList == r.toList) = true := beq_self_eq_true _
  have HC1 := Lib.hid (fun W1 : World => ccont_is f0 r W1 hf0 hd2 HRR)
  have HC2 := Lib.hid (fun W1 : World => fcont_is f0 r W1 hf0 hd2 HRR)
  go_wp2_with fail
  first | go_region_with (first | (go_at_call 15; refine (HC1.out _).mono ?_; rintro e w4 ⟨rfl, hB4⟩; have HX4 := Lib.hid (HX3.out.below hB4); have HB4 := Lib.hid (HB3.out.trans (hB4.mono HB3.out.size)); clear hB4; (obtain ⟨c0, c1, c2, c3⟩ := HX4.out.c)) | (go_at_call 16; refine (HC2.out _).mono ?_; rintro e w5 ⟨rfl, hB5⟩; have HX5 := Lib.hid (HX4.out.below hB5); have HB5 := Lib.hid (HB4.out.trans (hB5.mono HB4.out.size)); clear hB5; (obtain ⟨e0, e1, e2, e3⟩ := HX5.out.c)))
  all_goals
    go_wp2_with fail
    go_ret
    exact ⟨rfl, HB5.out⟩

set_option maxRecDepth 100000 in
theorem lifted (os : Os) (started : os.Started) (H : Type) (enc : TypeId × Value → H) :
    ReturnsInHanded {} Try.checked os 4 .any (Rows.frameWrongSpec.pre6 enc Try.prog Try.f4 Rows.frameWrongRow.domain false) (Rows.frameWrongSpec.post enc Try.prog Try.f4 false true false false) := by
  refine returnsInHanded_of_change (C := Try.checked) own started (by kernel_rfl) Try.func4
    (ChangeSpec.witness6 (enc := enc) (C := Try.checked) false ⟨#[], #[.agg #[.int .u8 0, .int .u8 0, .int .u32 0, .string ByteArray.empty]], []⟩ 8 (by kernel_rfl) (by kernel_rfl) (by kernel_rfl) (by kernel_rfl)) ?_
  intro W base args ds gs before hval0 hW hcnd _
  have hval : ∀ (j : Nat) t v, Try.f4.params[j]? = some t → args[j]? = some v → Value.okWide Try.prog W .any base t v := hval0
  have hW' := hW
  obtain ⟨p, q, hA0, hV, rfl, hfz, hnd⟩ := hW
  have hA : DataW.TrodAll enc Try.prog W 0 (fun _ => true) true Try.f4.params.toList args.toList ds p := hA0
  rw [Try.params4] at hA hval
  obtain ⟨v0, vs0, d0, ds0, p0, q0, hargs, rfl, rfl, h0, r0⟩ := trodAll_cons hA
  obtain ⟨rfl, rfl, rfl⟩ := trodAll_nil r0
  obtain rfl : args = #[v0] := by cases args; simp_all
  obtain ⟨rfl, rfl⟩ := trodVars_none hV
  have k0 := h0
  have lt0 : ∀ x ∈ p0, x.block < W.heap.size := by obtain ⟨m, hm⟩ := k0; exact DataW.trod_lt m _ _ _ hm
  obtain ⟨f0, rfl, hf0, hd0⟩ := came_frm (hval 0 24 v0 rfl rfl) h0
  clear hA0 hval0
  refine (walk f0 W hf0 hd0).mono fun e W' ⟨he, bel⟩ => ?_
  subst he
  exact ⟨_, rfl, _, _, _, [], _, [], hW', trodAll_mk1 (shut_bool Try.underlying4 _), (trodAll_cons_mk (Below.trod laidOut (by kernel_rfl) (of_decide_eq_true (by kernel_rfl)) k0 bel lt0) trodAll_mk0), rfl, bel.frame _, fun h => by cases h⟩

theorem over : Rows.frameWrongRow.holds Try.pinned (OpenSpec.ofChange Rows.frameWrongSpec) :=
  OpenClaim.holds_of_wide 4 Try.f4 rfl rfl rfl rfl rfl rfl rfl ⟨rfl, rfl, rfl, rfl, rfl⟩ rfl rfl rfl rfl rfl (by kernel_rfl) Try.func4 (by kernel_rfl)
    (of_decide_eq_true (by kernel_rfl)) (by unfold Func.isWrapper; first | (rw [if_pos (by decide +kernel)]; kernel_rfl) | (rw [if_neg (by decide +kernel)]; exact ⟨rfl, rfl⟩))
    (fun os started H enc _ => lifted os started H enc)

theorem proved : Rows.FrameWrongSaid := over
#print axioms proved
end Go.Proofs.Ytfgeapoojogdbaa.frameWrong
