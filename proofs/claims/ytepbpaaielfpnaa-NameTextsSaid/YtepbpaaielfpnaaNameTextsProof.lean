/- Proves NameTexts: any bytes have just the document's text, any text is read as just its name, or refused. No condition. -/
import Derived.Test.YtepbpaaielfpnaaRows
import Derived.WalkKit
import Derived.ProofKit
import Derived.OpenShut
import Derived.ShutString
import Derived.Test.YtepbpaaielfpnaaNameAwake
import Derived.Below
namespace Go.Proofs.Ytepbpaaielfpnaa.nameTexts
open Go.ChangeShapes Go.WideShapes Go.ChangeAt Go.RowKit
open Go.ChangeMaps (open_string shut_string)
set_option linter.unusedVariables false      -- a walk need not use every 'w<i>' (that an integer argument fits its kind)

theorem own : ownKnob Try.prog.godebug = none := by kernel_rfl

open Bytes NameMath

theorem walk (a0 : ByteArray) (a1 : ByteArray) (w0 : a0.size ≤ maxLen) (w1 : a1.size ≤ maxLen) (w : World) :
    Calls Try.prog 5 #[.string a0, .string a1] w fun e w' => e = .returned (.bool true) ∧ Below w.heap.size w w' := by
  have n0 : Below w.heap.size w w := Below.refl _ _
  by_cases h1 : (2000 : Int) < a0.size
  · go_enter Try.func5, Try.ntmps5
    go_wp2_with fail
    refine (awake_any _).mono ?_
    rintro e w1 ⟨rfl, hB⟩
    go_wp2_with fail
    go_ret
    exact ⟨rfl, hB⟩
  by_cases h2 : (2000 : Int) < a1.size
  · go_enter Try.func5, Try.ntmps5
    go_wp2_with fail
    refine (awake_any _).mono ?_
    rintro e w1 ⟨rfl, hB⟩
    go_wp2_with fail
    go_ret
    exact ⟨rfl, hB⟩
  have hs : a0.size ≤ 2000 := by omega
  have ht : a1.size ≤ 2000 := by omega
  obtain ⟨x, hx⟩ : ∃ x, mk (readL a1.data.toList) = x := ⟨_, rfl⟩
  obtain ⟨E, hE⟩ : ∃ E, readE a1.data.toList = E := ⟨_, rfl⟩
  obtain ⟨y, hy⟩ : ∃ y, mk (textN a0.data.toList) = y := ⟨_, rfl⟩
  have HX := Lib.hid hx; clear hx
  have HE := Lib.hid hE; clear hE
  have HY := Lib.hid hy; clear hy
  have fx : (x.toList == x.toList) = true := beq_self_eq_true _
  have fy : (y.toList == y.toList) = true := beq_self_eq_true _
  have fE : ((E : Int) == (E : Int)) = true := beq_self_eq_true _
  go_enter Try.func5, Try.ntmps5
  go_wp2_with fail
  refine (awake_any _).mono ?_
  rintro e w1 ⟨rfl, n1⟩
  have s1 := n1.size
  clear n0
  go_wp2_with fail
  refine (read_is a1 x E _ (by omega) HX HE).mono ?_
  rintro e w2 ⟨rfl, hB⟩
  have n2 := n1.trans (hB.mono s1)
  have s2 := n2.size
  clear hB n1 s1
  go_wp2_with fail
  refine (refRead_is a1 x E _ (by omega) HX HE).mono ?_
  rintro e w3 ⟨rfl, hB⟩
  have n3 := n2.trans (hB.mono s2)
  have s3 := n3.size
  clear hB n2 s2
  go_wp2_with fail
  refine (nameText_is a0 y _ (by omega) HY).mono ?_
  rintro e w4 ⟨rfl, hB⟩
  have n4 := n3.trans (hB.mono s3)
  have s4 := n4.size
  clear hB n3 s3
  go_wp2_with fail
  refine (refText_is a0 y _ (by omega) HY).mono ?_
  rintro e w5 ⟨rfl, hB⟩
  have n5 := n4.trans (hB.mono s4)
  have s5 := n5.size
  clear hB n4 s4
  go_wp2_with fail
  go_ret
  exact ⟨rfl, n5⟩

set_option maxRecDepth 100000 in
theorem lifted (os : Os) (started : os.Started) (H : Type) (enc : TypeId × Value → H) :
    ReturnsInHanded {} Try.checked os 5 .any (Rows.nameTextsSpec.pre6 enc Try.prog Try.f5 Rows.nameTextsRow.domain false) (Rows.nameTextsSpec.post enc Try.prog Try.f5 false true false false) := by
  refine returnsInHanded_of_change (C := Try.checked) own started (by kernel_rfl) Try.func5
    (ChangeSpec.witness6 (enc := enc) (C := Try.checked) false ⟨#[], #[.string ByteArray.empty, .string ByteArray.empty], []⟩ 8 (by kernel_rfl) (by kernel_rfl) (by kernel_rfl) (by kernel_rfl)) ?_
  intro W base args ds gs before hval0 hW hcnd _
  have hval : ∀ (j : Nat) t v, Try.f5.params[j]? = some t → args[j]? = some v → Value.okWide Try.prog W .any base t v := hval0
  have hW' := hW
  obtain ⟨p, q, hA0, hV, rfl, hfz, hnd⟩ := hW
  have hA : DataW.TrodAll enc Try.prog W 0 (fun _ => true) true Try.f5.params.toList args.toList ds p := hA0
  rw [Try.params5] at hA hval
  obtain ⟨v0, vs0, d0, ds0, p0, q0, hargs, rfl, rfl, h0, r0⟩ := trodAll_cons hA
  obtain ⟨v1, vs1, d1, ds1, p1, q1, rfl, rfl, rfl, h1, r1⟩ := trodAll_cons r0
  obtain ⟨rfl, rfl, rfl⟩ := trodAll_nil r1
  obtain rfl : args = #[v0, v1] := by cases args; simp_all
  obtain ⟨rfl, rfl⟩ := trodVars_none hV
  obtain ⟨a0, rfl, rfl, rfl, w0⟩ := open_string Try.underlying9 (hval 0 9 v0 rfl rfl) h0
  obtain ⟨a1, rfl, rfl, rfl, w1⟩ := open_string Try.underlying9 (hval 1 9 v1 rfl rfl) h1
  clear hA0 hval0
  simp only [List.append_nil] at hW'
  refine (walk a0 a1 w0 w1 W).mono fun e W' ⟨he, hg⟩ => ?_
  subst he
  exact ⟨_, rfl, _, _, _, [], [], [], hW', (trodAll_cons_mk (shut_bool Try.underlying4 _) trodAll_mk0), (trodAll_cons_mk (shut_string Try.underlying9 w0) (trodAll_cons_mk (shut_string Try.underlying9 w1) trodAll_mk0)), rfl, hg.frame _, fun h => by cases h⟩

theorem over : Rows.nameTextsRow.holds Try.pinned (OpenSpec.ofChange Rows.nameTextsSpec) :=
  OpenClaim.holds_of_wide 5 Try.f5 rfl rfl rfl rfl rfl rfl rfl ⟨rfl, rfl, rfl, rfl, rfl⟩ rfl rfl rfl rfl rfl (by kernel_rfl) Try.func5 (by kernel_rfl)
    (of_decide_eq_true (by kernel_rfl)) (by unfold Func.isWrapper; first | (rw [if_pos (by decide +kernel)]; kernel_rfl) | (rw [if_neg (by decide +kernel)]; exact ⟨rfl, rfl⟩))
    (fun os started H enc _ => lifted os started H enc)

theorem proved : Rows.NameTextsSaid :=
  over
#print axioms proved
end Go.Proofs.Ytepbpaaielfpnaa.nameTexts
