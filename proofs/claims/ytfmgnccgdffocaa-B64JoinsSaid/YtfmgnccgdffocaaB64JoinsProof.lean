/- Proves B64Joins: texts whose first one is as long as a multiple of three are written one behind the other. No condition. -/
import Derived.Test.YtfmgnccgdffocaaRows
import Derived.WalkKit
import Derived.ProofKit
import Derived.OpenShut
import Derived.ShutString
import Derived.Test.YtfmgnccgdffocaaB64Awake
import Derived.Below
namespace Go.Proofs.Ytfmgnccgdffocaa.b64Joins
open Go.ChangeShapes Go.WideShapes Go.ChangeAt Go.RowKit
open Go.ChangeMaps (open_string shut_string)
set_option linter.unusedVariables false      -- a walk need not use every 'w<i>' (that an integer argument fits its kind)

theorem own : ownKnob Try.prog.godebug = none := by kernel_rfl

open Bytes B64
theorem cut_size (s : ByteArray) : (s.extract 0 (s.size / 3 * 3)).size = s.size / 3 * 3 := by
  rw [ByteArray.size_extract]
  omega

theorem walk (a0 : ByteArray) (a1 : ByteArray) (w0 : a0.size ≤ maxLen) (w1 : a1.size ≤ maxLen) (w : World) :
    Calls Try.prog 6 #[.string a0, .string a1] w fun e w' => e = .returned (.bool true) ∧ Below w.heap.size w w' := by
  have n0 : Below w.heap.size w w := Below.refl _ _
  by_cases h1 : (4000 : Int) < a0.size
  · go_enter Try.func6, Try.ntmps6
    go_wp2_with fail
    refine (awake_any _).mono ?_
    rintro e w1 ⟨rfl, hB⟩
    go_wp2_with fail
    go_ret
    exact ⟨rfl, hB⟩
  by_cases h2 : (4000 : Int) < a1.size
  · go_enter Try.func6, Try.ntmps6
    go_wp2_with fail
    refine (awake_any _).mono ?_
    rintro e w1 ⟨rfl, hB⟩
    go_wp2_with fail
    go_ret
    exact ⟨rfl, hB⟩
  have hs : a0.size ≤ 4000 := by omega
  have ht : a1.size ≤ 4000 := by omega
  go_enter Try.func6, Try.ntmps6
  go_wp2_with fail
  refine (awake_any _).mono ?_
  rintro e w1 ⟨rfl, n1⟩
  have s1 := n1.size
  clear n0
  have hk1 : (0 : Int) ≤ (a0.size : Int) / 3 * 3 := by omega
  have hk2 : (a0.size : Int) / 3 * 3 ≤ a0.size := by omega
  go_wp2_with fail
  have hcs := cut_size a0
  generalize a0.extract 0 (a0.size / 3 * 3) = c at *
  obtain ⟨x, hx⟩ : ∃ x, encS c = x := ⟨_, rfl⟩
  obtain ⟨y, hy⟩ : ∃ y, encS a1 = y := ⟨_, rfl⟩
  have hxy := encS_cat c a1 (by omega)
  have hx1 := encS_size c
  have hy1 := encS_size a1
  rw [hx, hy] at hxy
  rw [hx] at hx1
  rw [hy] at hy1
  have hx2 : x.size ≤ 10000 := by omega
  have hy2 : y.size ≤ 10000 := by omega
  have hca : (c ++ a1).size ≤ 10000 := by rw [ByteArray.size_append]; omega
  have HX := Lib.hid hx
  have HY := Lib.hid hy
  have HXY := Lib.hid hxy
  have fa : ((x ++ y).toList == (x ++ y).toList) = true := beq_self_eq_true _
  clear hx hy hxy hx1 hy1 hk1 hk2
  refine (encode_is (c ++ a1) (x ++ y) HXY _ (by omega)).mono ?_
  rintro e w2 ⟨rfl, hB⟩
  have n2 := n1.trans (hB.mono s1)
  have s2 := n2.size
  clear hB n1 s1
  go_wp2_with fail
  refine (encode_is c x HX _ (by omega)).mono ?_
  rintro e w3 ⟨rfl, hB⟩
  have n3 := n2.trans (hB.mono s2)
  have s3 := n3.size
  clear hB n2 s2
  go_wp2_with fail
  refine (encode_is a1 y HY _ (by omega)).mono ?_
  rintro e w4 ⟨rfl, hB⟩
  have n4 := n3.trans (hB.mono s3)
  clear hB n3 s3
  go_wp2_with fail
  go_ret
  exact ⟨rfl, n4⟩

set_option maxRecDepth 100000 in
theorem lifted (os : Os) (started : os.Started) (H : Type) (enc : TypeId × Value → H) :
    ReturnsInHanded {} Try.checked os 6 .any (Rows.b64JoinsSpec.pre6 enc Try.prog Try.f6 Rows.b64JoinsRow.domain false) (Rows.b64JoinsSpec.post enc Try.prog Try.f6 false true false false) := by
  refine returnsInHanded_of_change (C := Try.checked) own started (by kernel_rfl) Try.func6
    (ChangeSpec.witness6 (enc := enc) (C := Try.checked) false ⟨#[], #[.string ByteArray.empty, .string ByteArray.empty], []⟩ 8 (by kernel_rfl) (by kernel_rfl) (by kernel_rfl) (by kernel_rfl)) ?_
  intro W base args ds gs before hval0 hW hcnd _
  have hval : ∀ (j : Nat) t v, Try.f6.params[j]? = some t → args[j]? = some v → Value.okWide Try.prog W .any base t v := hval0
  have hW' := hW
  obtain ⟨p, q, hA0, hV, rfl, hfz, hnd⟩ := hW
  have hA : DataW.TrodAll enc Try.prog W 0 (fun _ => true) true Try.f6.params.toList args.toList ds p := hA0
  rw [Try.params6] at hA hval
  obtain ⟨v0, vs0, d0, ds0, p0, q0, hargs, rfl, rfl, h0, r0⟩ := trodAll_cons hA
  obtain ⟨v1, vs1, d1, ds1, p1, q1, rfl, rfl, rfl, h1, r1⟩ := trodAll_cons r0
  obtain ⟨rfl, rfl, rfl⟩ := trodAll_nil r1
  obtain rfl : args = #[v0, v1] := by cases args; simp_all
  obtain ⟨rfl, rfl⟩ := trodVars_none hV
  obtain ⟨a0, rfl, rfl, rfl, w0⟩ := open_string Try.underlying9 (hval 0 9 v0 rfl rfl) h0
  obtain ⟨a1, rfl, rfl, rfl, w1⟩ := open_string Try.underlying9 (hval 1 9 v1 rfl rfl) h1
  clear hA0 hval0
  simp only [List.append_nil] at hW'
  refine (walk a0 a1 w0 w1 W).mono fun e W' ⟨he, hg⟩ => ?_
  subst he
  exact ⟨_, rfl, _, _, _, [], [], [], hW', (trodAll_cons_mk (shut_bool Try.underlying4 _) trodAll_mk0), (trodAll_cons_mk (shut_string Try.underlying9 w0) (trodAll_cons_mk (shut_string Try.underlying9 w1) trodAll_mk0)), rfl, hg.frame _, fun h => by cases h⟩

theorem over : Rows.b64JoinsRow.holds Try.pinned (OpenSpec.ofChange Rows.b64JoinsSpec) :=
  OpenClaim.holds_of_wide 6 Try.f6 rfl rfl rfl rfl rfl rfl rfl ⟨rfl, rfl, rfl, rfl, rfl⟩ rfl rfl rfl rfl rfl (by kernel_rfl) Try.func6 (by kernel_rfl)
    (of_decide_eq_true (by kernel_rfl)) (by unfold Func.isWrapper; first | (rw [if_pos (by decide +kernel)]; kernel_rfl) | (rw [if_neg (by decide +kernel)]; exact ⟨rfl, rfl⟩))
    (fun os started H enc _ => lifted os started H enc)

theorem proved : Rows.B64JoinsSaid :=
  over
#print axioms proved
end Go.Proofs.Ytfmgnccgdffocaa.b64Joins
