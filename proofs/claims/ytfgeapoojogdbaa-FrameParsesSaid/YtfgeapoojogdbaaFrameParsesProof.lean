import Derived.Test.YtfgeapoojogdbaaRows
import Derived.Test.YtfgeapoojogdbaaProg
import Derived.Test.YtfgeapoojogdbaaBytes
import Derived.Test.YtfgeapoojogdbaaNumBe
import Derived.Test.YtfgeapoojogdbaaFrMath
import Derived.Test.YtfgeapoojogdbaaFrFrame
import Derived.Test.YtfgeapoojogdbaaFrRef
import Derived.Test.YtfgeapoojogdbaaFrRefP
import Derived.Test.YtfgeapoojogdbaaFrRefS
import Derived.Test.YtfgeapoojogdbaaFrEq
import Derived.Test.YtfgeapoojogdbaaFrCode
import Derived.Test.YtfgeapoojogdbaaFrAwake
import Derived.Deep.CutRange
import Derived.Lib.Hide
import Derived.Outline
import Derived.IntWalk
import Derived.WalkSpells
import Derived.WalkLawsBesides
import Derived.Laws.Rows
import Derived.WalkKit
import Derived.ProofKit
import Derived.OpenShut
import Derived.ShutString
import Derived.ChangeOld
import Derived.Below
namespace Go.Proofs.Ytfgeapoojogdbaa.frameParses
open Go Go.ChangeShapes Go.WideShapes Go.ChangeAt Go.RowKit Bytes Fr
open Go.ChangeMaps (open_string shut_string)
set_option linter.unusedVariables false

theorem own : ownKnob Try.prog.godebug = none := by kernel_rfl
theorem laidOut : laidOutB Try.prog = true := by kernel_rfl

set_option maxHeartbeats 8000000 in
set_option maxRecDepth 100000 in
theorem walk (s0 : ByteArray) (f1 : Frm) (w : World) (hs0 : s0.size ≤ maxLen) (hf1 : Okf f1) (hd1 : f1.data.size ≤ maxLen) :
    Calls Try.prog 3 #[.string s0, .agg #[.int .u8 (f1.ty : Int), .int .u8 (f1.fl : Int), .int .u32 (f1.st : Int), .string f1.data]] w fun e w' => e = .returned (.bool true) ∧ Below w.heap.size w w' := by
  obtain ⟨hX0, hB0⟩ := boxF_new w f1
  obtain ⟨X, hX⟩ : ∃ X, w.heap.size = X := ⟨_, rfl⟩
  have HX0 := Lib.hid (hX ▸ hX0)
  have HB0 := Lib.hid hB0
  clear hX0 hB0
  go_enter Try.func3, Try.ntmps3
  go_upto_region 1 with fail
  generalize w.alloc (.cells #[.int .u8 (f1.ty : Int), .int .u8 (f1.fl : Int), .int .u32 (f1.st : Int), .string f1.data] 24) = W at *
  clear hX
  go_wp2_with fail
  refine (awake_is W).mono ?_
  rintro e w1 ⟨rfl, hB1⟩
  have HB1 := Lib.hid (HB0.out.trans (hB1.mono HB0.out.size))
  have HX1 := Lib.hid (HX0.out.below hB1)
  clear hB1 HX0 HB0
  obtain ⟨a0, a1, a2, a3⟩ := HX1.out.c
  by_cases hbig : 40000 < s0.size
  · have b1 : (40000 : Int) < (s0.size : Int) := by omega
    go_wp2_with fail
    go_ret
    exact ⟨rfl, HB1.out⟩
  have b1 : ¬ ((40000 : Int) < (s0.size : Int)) := by omega
  have b1d : decide ((40000 : Int) < (s0.size : Int)) = false := decide_eq_false b1
  by_cases hbig2 : 40000 < f1.data.size
  · have b2 : (40000 : Int) < (f1.data.size : Int) := by omega
    go_wp2_with fail
    go_ret
    exact ⟨rfl, HB1.out⟩
  have b2 : ¬ ((40000 : Int) < (f1.data.size : Int)) := by omega
  have b2d : decide ((40000 : Int) < (f1.data.size : Int)) = false := decide_eq_false b2
  obtain ⟨⟨g, n, c⟩, hp⟩ : ∃ z, parseF s0 = z := ⟨_, rfl⟩
  obtain ⟨⟨l, c2⟩, hq⟩ : ∃ z, printF f1 = z := ⟨_, rfl⟩
  obtain ⟨r, hr⟩ : ∃ r, mk l = r := ⟨_, rfl⟩
  have HP := Lib.hid hp
  have HQ := Lib.hid hq
  have HRR := Lib.hid hr
  have HSAME := Lib.hid (frm_same g)
  have hs1 : s0.size ≤ 1000000 := by omega
  have hd2 : f1.data.size ≤ 1000000 := by omega
  clear hp hq hr hbig hbig2
  go_wp2_with fail
  refine (cparse_is s0 g n c w1 hs1 HP).mono ?_
  rintro e w2 ⟨rfl, hB2⟩
  unfold frV
  have hB2a := hB2.trans (((Below.refl _ w2).alloc (Nat.le_refl _) (.cells #[.int .u8 (g.ty : Int), .int .u8 (g.fl : Int), .int .u32 (g.st : Int), .string g.data] 24)).mono hB2.size)
  have HY2 := Lib.hid (boxF_new w2 g).1
  have HX2 := Lib.hid (HX1.out.below hB2a)
  have HB2 := Lib.hid (HB1.out.trans (hB2a.mono HB1.out.size))
  clear hB2 hB2a a0 a1 a2 a3
  go_upto_region 6 with fail
  generalize w2.alloc (.cells #[.int .u8 (g.ty : Int), .int .u8 (g.fl : Int), .int .u32 (g.st : Int), .string g.data] 24) = w3 at *
  obtain ⟨Y, hY⟩ : ∃ Y, w2.heap.size = Y := ⟨_, rfl⟩
  rw [hY] at HY2 ⊢
  clear hY
  go_wp2_with fail
  refine (fparse_is s0 g n c w3 hs1 HP).mono ?_
  rintro e w4 ⟨rfl, hB4⟩
  unfold frV
  have hB4a := hB4.trans (((Below.refl _ w4).alloc (Nat.le_refl _) (.cells #[.int .u8 (g.ty : Int), .int .u8 (g.fl : Int), .int .u32 (g.st : Int), .string g.data] 24)).mono hB4.size)
  have HZ4 := Lib.hid (boxF_new w4 g).1
  have HY4 := Lib.hid (HY2.out.below hB4a)
  have HX4 := Lib.hid (HX2.out.below hB4a)
  have HB4 := Lib.hid (HB2.out.trans (hB4a.mono HB2.out.size))
  clear hB4 hB4a
  go_upto_region 7 with fail
  generalize w4.alloc (.cells #[.int .u8 (g.ty : Int), .int .u8 (g.fl : Int), .int .u32 (g.st : Int), .string g.data] 24) = w5 at *
  obtain ⟨Z, hZ⟩ : ∃ Z, w4.heap.size = Z := ⟨_, rfl⟩
  rw [hZ] at HZ4 ⊢
  clear hZ
  obtain ⟨a0, a1, a2, a3⟩ := HX4.out.c
  go_wp2_with fail
  refine (cprint_is f1 l c2 r w5 hf1 hd2 HQ HRR).mono ?_
  rintro e w6 ⟨rfl, hB6⟩
  have HX6 := Lib.hid (HX4.out.below hB6)
  have HY6 := Lib.hid (HY4.out.below hB6)
  have HZ6 := Lib.hid (HZ4.out.below hB6)
  have HB6 := Lib.hid (HB4.out.trans (hB6.mono HB4.out.size))
  clear hB6 a0 a1 a2 a3
  obtain ⟨a0, a1, a2, a3⟩ := HX6.out.c
  go_wp2_with fail
  refine (fprint_is f1 l c2 r w6 hf1 hd2 HQ HRR).mono ?_
  rintro e w7 ⟨rfl, hB7⟩
  have HY7 := Lib.hid (HY6.out.below hB7)
  have HZ7 := Lib.hid (HZ6.out.below hB7)
  have HB7 := Lib.hid (HB6.out.trans (hB7.mono HB6.out.size))
  clear hB7 a0 a1 a2 a3
  obtain ⟨y0, y1, y2, y3⟩ := HY7.out.c
  obtain ⟨z0, z1, z2, z3⟩ := HZ7.out.c
  have hsm := HSAME.out w7
  have frr : (r.toList == r.toList) = true := beq_self_eq_true _
  go_wp2_with fail
  go_ret
  exact ⟨rfl, HB7.out⟩

set_option maxRecDepth 100000 in
theorem lifted (os : Os) (started : os.Started) (H : Type) (enc : TypeId × Value → H) :
    ReturnsInHanded {} Try.checked os 3 .any (Rows.frameParsesSpec.pre6 enc Try.prog Try.f3 Rows.frameParsesRow.domain false) (Rows.frameParsesSpec.post enc Try.prog Try.f3 false true false false) := by
  refine returnsInHanded_of_change (C := Try.checked) own started (by kernel_rfl) Try.func3
    (ChangeSpec.witness6 (enc := enc) (C := Try.checked) false ⟨#[], #[.string ByteArray.empty, .agg #[.int .u8 0, .int .u8 0, .int .u32 0, .string ByteArray.empty]], []⟩ 8 (by kernel_rfl) (by kernel_rfl) (by kernel_rfl) (by kernel_rfl)) ?_
  intro W base args ds gs before hval0 hW hcnd _
  have hval : ∀ (j : Nat) t v, Try.f3.params[j]? = some t → args[j]? = some v → Value.okWide Try.prog W .any base t v := hval0
  have hW' := hW
  obtain ⟨p, q, hA0, hV, rfl, hfz, hnd⟩ := hW
  have hA : DataW.TrodAll enc Try.prog W 0 (fun _ => true) true Try.f3.params.toList args.toList ds p := hA0
  rw [Try.params3] at hA hval
  obtain ⟨v0, vs0, d0, ds0, p0, q0, hargs, rfl, rfl, h0, r0⟩ := trodAll_cons hA
  obtain ⟨v1, vs1, d1, ds1, p1, q1, rfl, rfl, rfl, h1, r1⟩ := trodAll_cons r0
  obtain ⟨rfl, rfl, rfl⟩ := trodAll_nil r1
  obtain rfl : args = #[v0, v1] := by cases args; simp_all
  obtain ⟨rfl, rfl⟩ := trodVars_none hV
  obtain ⟨s0, rfl, rfl, rfl, ws0⟩ := open_string Try.underlying9 (hval 0 9 v0 rfl rfl) h0
  have k1 := h1
  have lt1 : ∀ x ∈ p1, x.block < W.heap.size := by obtain ⟨m, hm⟩ := k1; exact DataW.trod_lt m _ _ _ hm
  obtain ⟨f1, rfl, hf1, hd1⟩ := came_frm (hval 1 24 v1 rfl rfl) h1
  clear hA0 hval0
  refine (walk s0 f1 W ws0 hf1 hd1).mono fun e W' ⟨he, bel⟩ => ?_
  subst he
  exact ⟨_, rfl, _, _, _, [], _, [], hW', trodAll_mk1 (shut_bool Try.underlying4 _), (trodAll_cons_mk (shut_string Try.underlying9 ws0) (trodAll_cons_mk (Below.trod laidOut (by kernel_rfl) (of_decide_eq_true (by kernel_rfl)) k1 bel lt1) trodAll_mk0)), rfl, bel.frame _, fun h => by cases h⟩

theorem over : Rows.frameParsesRow.holds Try.pinned (OpenSpec.ofChange Rows.frameParsesSpec) :=
  OpenClaim.holds_of_wide 3 Try.f3 rfl rfl rfl rfl rfl rfl rfl ⟨rfl, rfl, rfl, rfl, rfl⟩ rfl rfl rfl rfl rfl (by kernel_rfl) Try.func3 (by kernel_rfl)
    (of_decide_eq_true (by kernel_rfl)) (by unfold Func.isWrapper; first | (rw [if_pos (by decide +kernel)]; kernel_rfl) | (rw [if_neg (by decide +kernel)]; exact ⟨rfl, rfl⟩))
    (fun os started H enc _ => lifted os started H enc)

theorem proved : Rows.FrameParsesSaid := over
#print axioms proved
end Go.Proofs.Ytfgeapoojogdbaa.frameParses
