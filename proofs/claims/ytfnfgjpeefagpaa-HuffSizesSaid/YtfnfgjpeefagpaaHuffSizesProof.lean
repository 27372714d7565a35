/- Proves HuffSizes: two texts as one take as many bytes as both, or one fewer; each byte takes 5 to 30 bits. No condition. -/
import Derived.Test.YtfnfgjpeefagpaaRows
import Derived.WalkKit
import Derived.ProofKit
import Derived.OpenShut
import Derived.ShutString
import Derived.Test.YtfnfgjpeefagpaaHfAwake
import Derived.Below
namespace Go.Proofs.Ytfnfgjpeefagpaa.huffSizes
open Go.ChangeShapes Go.WideShapes Go.ChangeAt Go.RowKit
open Go.ChangeMaps (open_string shut_string)
set_option linter.unusedVariables false      -- a walk need not use every 'w<i>' (that an integer argument fits its kind)

theorem own : ownKnob Try.prog.godebug = none := by kernel_rfl

open Bytes Hf

theorem walk (a0 : ByteArray) (a1 : ByteArray) (w0 : a0.size ≤ maxLen) (w1 : a1.size ≤ maxLen) (w : World) :
    Calls Try.prog 8 #[.string a0, .string a1] w fun e w' => e = .returned (.bool true) ∧ Below w.heap.size w w' := by
  by_cases h1 : (2000 : Int) < a0.size
  · go_enter Try.func8, Try.ntmps8
    go_wp2_with fail
    refine (awake_any _).mono ?_
    rintro e w1 ⟨rfl, hB⟩
    go_wp2_with fail
    go_ret
    exact ⟨rfl, hB⟩
  by_cases h2 : (2000 : Int) < a1.size
  · go_enter Try.func8, Try.ntmps8
    go_wp2_with fail
    refine (awake_any _).mono ?_
    rintro e w1 ⟨rfl, hB⟩
    go_wp2_with fail
    go_ret
    exact ⟨rfl, hB⟩
  obtain ⟨x, hx⟩ : ∃ x, sizeE a0.data.toList = x := ⟨_, rfl⟩
  obtain ⟨y, hy⟩ : ∃ y, sizeE a1.data.toList = y := ⟨_, rfl⟩
  obtain ⟨t, ht⟩ : ∃ t, a0 ++ a1 = t := ⟨_, rfl⟩
  obtain ⟨z, hz⟩ : ∃ z, sizeE t.data.toList = z := ⟨_, rfl⟩
  have hts : t.size = a0.size + a1.size := by rw [← ht, ByteArray.size_append]
  have hs := sizes a0.data.toList a1.data.toList
  rw [← cat_list, ht, hx, hy, hz, ← Lib.size_eq] at hs
  obtain ⟨s1, s2, s3, s4, s5, s6⟩ := hs
  have s7 := (sizes a1.data.toList []).2.2.2.2.1
  rw [hy, ← Lib.size_eq] at s7
  obtain ⟨r, hr⟩ : ∃ r, mk (enc a0.data.toList) = r := ⟨_, rfl⟩
  have hrs : r.size = x := by rw [← hr, mk_size, enc_len, ← hx]; rfl
  have HX := Lib.hid hx
  have HY := Lib.hid hy
  have HZ := Lib.hid hz
  have HR := Lib.hid hr
  have HRS := Lib.hid hrs
  have w1a : IntKind.i64.wrap ((x : Int) + (y : Int)) = (x : Int) + (y : Int) := by rw [IntKind.wrap_i64]; omega
  have w1b : IntKind.i64.wrap ((x : Int) + (y : Int) - 1) = (x : Int) + (y : Int) - 1 := by rw [IntKind.wrap_i64]; omega
  have w1c : IntKind.i64.wrap (4 * (a0.size : Int)) = 4 * (a0.size : Int) := by rw [IntKind.wrap_i64]; omega
  have w1d : IntKind.i64.wrap (8 * (x : Int)) = 8 * (x : Int) := by rw [IntKind.wrap_i64]; omega
  have w1e : IntKind.i64.wrap (5 * (a0.size : Int)) = 5 * (a0.size : Int) := by rw [IntKind.wrap_i64]; omega
  have d1 : decide ((z : Int) ≤ (x : Int) + (y : Int)) = true := by rw [decide_eq_true_eq]; omega
  have d2 : decide ((x : Int) + (y : Int) - 1 ≤ (z : Int)) = true := by rw [decide_eq_true_eq]; omega
  have d3 : decide ((x : Int) ≤ (z : Int)) = true := by rw [decide_eq_true_eq]; omega
  have d4 : decide ((y : Int) ≤ (z : Int)) = true := by rw [decide_eq_true_eq]; omega
  have d5 : decide ((x : Int) ≤ 4 * (a0.size : Int)) = true := by rw [decide_eq_true_eq]; omega
  have d6 : decide (5 * (a0.size : Int) ≤ 8 * (x : Int)) = true := by rw [decide_eq_true_eq]; omega
  clear hx hy hz hr
  go_enter Try.func8, Try.ntmps8
  go_wp2_with fail
  refine (awake_any _).mono ?_
  rintro e w1 ⟨rfl, hB⟩
  go_wp2_with fail
  refine (size_is a0 x _ (by omega) HX).mono ?_
  rintro e w' ⟨rfl, rfl⟩
  go_wp2_with fail
  refine (size_is a1 y _ (by omega) HY).mono ?_
  rintro e w' ⟨rfl, rfl⟩
  go_wp2_with fail
  refine (size_is t z _ (by omega) HZ).mono ?_
  rintro e w' ⟨rfl, rfl⟩
  go_wp2_with fail
  refine (encode_is a0 r _ (by omega) HR).mono ?_
  rintro e w2 ⟨rfl, hB2⟩
  have n2 := hB.trans (hB2.mono hB.size)
  go_wp2_with fail
  go_ret
  exact ⟨rfl, n2⟩

set_option maxRecDepth 100000 in
theorem lifted (os : Os) (started : os.Started) (H : Type) (enc : TypeId × Value → H) :
    ReturnsInHanded {} Try.checked os 8 .any (Rows.huffSizesSpec.pre6 enc Try.prog Try.f8 Rows.huffSizesRow.domain false) (Rows.huffSizesSpec.post enc Try.prog Try.f8 false true false false) := by
  refine returnsInHanded_of_change (C := Try.checked) own started (by kernel_rfl) Try.func8
    (ChangeSpec.witness6 (enc := enc) (C := Try.checked) false ⟨#[], #[.string ByteArray.empty, .string ByteArray.empty], []⟩ 8 (by kernel_rfl) (by kernel_rfl) (by kernel_rfl) (by kernel_rfl)) ?_
  intro W base args ds gs before hval0 hW hcnd _
  have hval : ∀ (j : Nat) t v, Try.f8.params[j]? = some t → args[j]? = some v → Value.okWide Try.prog W .any base t v := hval0
  have hW' := hW
  obtain ⟨p, q, hA0, hV, rfl, hfz, hnd⟩ := hW
  have hA : DataW.TrodAll enc Try.prog W 0 (fun _ => true) true Try.f8.params.toList args.toList ds p := hA0
  rw [Try.params8] at hA hval
  obtain ⟨v0, vs0, d0, ds0, p0, q0, hargs, rfl, rfl, h0, r0⟩ := trodAll_cons hA
  obtain ⟨v1, vs1, d1, ds1, p1, q1, rfl, rfl, rfl, h1, r1⟩ := trodAll_cons r0
  obtain ⟨rfl, rfl, rfl⟩ := trodAll_nil r1
  obtain rfl : args = #[v0, v1] := by cases args; simp_all
  obtain ⟨rfl, rfl⟩ := trodVars_none hV
  obtain ⟨a0, rfl, rfl, rfl, w0⟩ := open_string Try.underlying9 (hval 0 9 v0 rfl rfl) h0
  obtain ⟨a1, rfl, rfl, rfl, w1⟩ := open_string Try.underlying9 (hval 1 9 v1 rfl rfl) h1
  clear hA0 hval0
  simp only [List.append_nil] at hW'
  refine (walk a0 a1 w0 w1 W).mono fun e W' ⟨he, hg⟩ => ?_
  subst he
  exact ⟨_, rfl, _, _, _, [], [], [], hW', (trodAll_cons_mk (shut_bool Try.underlying4 _) trodAll_mk0), (trodAll_cons_mk (shut_string Try.underlying9 w0) (trodAll_cons_mk (shut_string Try.underlying9 w1) trodAll_mk0)), rfl, hg.frame _, fun h => by cases h⟩

theorem over : Rows.huffSizesRow.holds Try.pinned (OpenSpec.ofChange Rows.huffSizesSpec) :=
  OpenClaim.holds_of_wide 8 Try.f8 rfl rfl rfl rfl rfl rfl rfl ⟨rfl, rfl, rfl, rfl, rfl⟩ rfl rfl rfl rfl rfl (by kernel_rfl) Try.func8 (by kernel_rfl)
    (of_decide_eq_true (by kernel_rfl)) (by unfold Func.isWrapper; first | (rw [if_pos (by decide +kernel)]; kernel_rfl) | (rw [if_neg (by decide +kernel)]; exact ⟨rfl, rfl⟩))
    (fun os started H enc _ => lifted os started H enc)

theorem proved : Rows.HuffSizesSaid :=
  over
#print axioms proved
end Go.Proofs.Ytfnfgjpeefagpaa.huffSizes
