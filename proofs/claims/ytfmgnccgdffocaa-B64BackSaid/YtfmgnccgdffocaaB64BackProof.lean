/- Proves B64Back: bytes come back from their signs; what is read was written with just these signs; so many signs there are as the document's sums say. No condition. -/
import Derived.Test.YtfmgnccgdffocaaRows
import Derived.WalkKit
import Derived.ProofKit
import Derived.OpenShut
import Derived.ShutString
import Derived.Test.YtfmgnccgdffocaaB64Awake
import Derived.Below
namespace Go.Proofs.Ytfmgnccgdffocaa.b64Back
open Go.ChangeShapes Go.WideShapes Go.ChangeAt Go.RowKit
open Go.ChangeMaps (open_string shut_string)
set_option linter.unusedVariables false      -- a walk need not use every 'w<i>' (that an integer argument fits its kind)

theorem own : ownKnob Try.prog.godebug = none := by kernel_rfl

open Bytes B64

theorem walk (a0 : ByteArray) (a1 : ByteArray) (w0 : a0.size ≤ maxLen) (w1 : a1.size ≤ maxLen) (w : World) :
    Calls Try.prog 5 #[.string a0, .string a1] w fun e w' => e = .returned (.bool true) ∧ Below w.heap.size w w' := by
  have n0 : Below w.heap.size w w := Below.refl _ _
  by_cases h1 : (4000 : Int) < a0.size
  · go_enter Try.func5, Try.ntmps5
    go_wp2_with fail
    refine (awake_any _).mono ?_
    rintro e w1 ⟨rfl, hB⟩
    go_wp2_with fail
    go_ret
    exact ⟨rfl, hB⟩
  by_cases h2 : (4000 : Int) < a1.size
  · go_enter Try.func5, Try.ntmps5
    go_wp2_with fail
    refine (awake_any _).mono ?_
    rintro e w1 ⟨rfl, hB⟩
    go_wp2_with fail
    go_ret
    exact ⟨rfl, hB⟩
  have hs : a0.size ≤ 4000 := by omega
  have ht : a1.size ≤ 4000 := by omega
  obtain ⟨t, het⟩ : ∃ t, encS a0 = t := ⟨_, rfl⟩
  have h3 := decS_encS a0
  have h4 := decO_encS a0
  have h5 := encS_size a0
  rw [het] at h3 h4 h5
  have HT := Lib.hid het; clear het
  have H3 := Lib.hid h3; clear h3
  have H4 := Lib.hid h4; clear h4
  have h6 : t.size ≤ 10000 := by omega
  have h7 : ((t.size : Int) != ((a0.size : Int) * 8 + 5) / 6) = false := bne_eq_false_iff_eq.2 (by omega)
  have fa : (a0.toList == a0.toList) = true := beq_self_eq_true _
  obtain ⟨x, hx⟩ : ∃ x, decS a1 = x := ⟨_, rfl⟩
  obtain ⟨o, ho⟩ : ∃ o, decO a1 = o := ⟨_, rfl⟩
  have hxs := decS_size a1
  rw [hx] at hxs
  have HX := Lib.hid hx
  have HO := Lib.hid ho
  clear h5
  go_enter Try.func5, Try.ntmps5
  go_wp2_with fail
  refine (awake_any _).mono ?_
  rintro e w1 ⟨rfl, n1⟩
  have s1 := n1.size
  clear n0
  go_wp2_with fail
  refine (encode_is a0 t HT _ (by omega)).mono ?_
  rintro e w2 ⟨rfl, hB⟩
  have n2 := n1.trans (hB.mono s1)
  have s2 := n2.size
  clear hB n1 s1
  go_wp2_with fail
  refine (decode_is t a0 true H3 H4 _ (by omega)).mono ?_
  rintro e w3 ⟨rfl, hB⟩
  have n3 := n2.trans (hB.mono s2)
  have s3 := n3.size
  clear hB n2 s2
  go_wp2_with fail
  refine (decode_is a1 x o HX HO _ (by omega)).mono ?_
  rintro e w4 ⟨rfl, hB⟩
  have n4 := n3.trans (hB.mono s3)
  have s4 := n4.size
  clear hB n3 s3
  cases o with
  | false =>
    have hd := decS_no ho
    rw [hx] at hd
    subst hd
    clear hx ho
    go_wp2_with fail
    go_ret
    exact ⟨rfl, n4⟩
  | true =>
    have hd := encS_decS ho
    rw [hx] at hd
    have HD := Lib.hid hd
    have f1 : (a1.toList == a1.toList) = true := beq_self_eq_true _
    clear hx ho hd
    go_wp2_with fail
    refine (encode_is x a1 HD _ (by omega)).mono ?_
    rintro e w5 ⟨rfl, hB⟩
    have n5 := n4.trans (hB.mono s4)
    clear hB n4 s4
    go_wp2_with fail
    go_ret
    exact ⟨rfl, n5⟩

set_option maxRecDepth 100000 in
theorem lifted (os : Os) (started : os.Started) (H : Type) (enc : TypeId × Value → H) :
    ReturnsInHanded {} Try.checked os 5 .any (Rows.b64BackSpec.pre6 enc Try.prog Try.f5 Rows.b64BackRow.domain false) (Rows.b64BackSpec.post enc Try.prog Try.f5 false true false false) := by
  refine returnsInHanded_of_change (C := Try.checked) own started (by kernel_rfl) Try.func5
    (ChangeSpec.witness6 (enc := enc) (C := Try.checked) false ⟨#[], #[.string ByteArray.empty, .string ByteArray.empty], []⟩ 8 (by kernel_rfl) (by kernel_rfl) (by kernel_rfl) (by kernel_rfl)) ?_
  intro W base args ds gs before hval0 hW hcnd _
  have hval : ∀ (j : Nat) t v, Try.f5.params[j]? = some t → args[j]? = some v → Value.okWide Try.prog W .any base t v := hval0
  have hW' := hW
  obtain ⟨p, q, hA0, hV, rfl, hfz, hnd⟩ := hW
  have hA : DataW.TrodAll enc Try.prog W 0 (fun _ => true) true Try.f5.params.toList args.toList ds p := hA0
  rw [Try.params5] at hA hval
  obtain ⟨v0, vs0, d0, ds0, p0, q0, hargs, rfl, rfl, h0, r0⟩ := trodAll_cons hA
  obtain ⟨v1, vs1, d1, ds1, p1, q1, rfl, rfl, rfl, h1, r1⟩ := trodAll_cons r0
  obtain ⟨rfl, rfl, rfl⟩ := trodAll_nil r1
  obtain rfl : args = #[v0, v1] := by cases args; simp_all
  obtain ⟨rfl, rfl⟩ := trodVars_none hV
  obtain ⟨a0, rfl, rfl, rfl, w0⟩ := open_string Try.underlying9 (hval 0 9 v0 rfl rfl) h0
  obtain ⟨a1, rfl, rfl, rfl, w1⟩ := open_string Try.underlying9 (hval 1 9 v1 rfl rfl) h1
  clear hA0 hval0
  simp only [List.append_nil] at hW'
  refine (walk a0 a1 w0 w1 W).mono fun e W' ⟨he, hg⟩ => ?_
  subst he
  exact ⟨_, rfl, _, _, _, [], [], [], hW', (trodAll_cons_mk (shut_bool Try.underlying4 _) trodAll_mk0), (trodAll_cons_mk (shut_string Try.underlying9 w0) (trodAll_cons_mk (shut_string Try.underlying9 w1) trodAll_mk0)), rfl, hg.frame _, fun h => by cases h⟩

theorem over : Rows.b64BackRow.holds Try.pinned (OpenSpec.ofChange Rows.b64BackSpec) :=
  OpenClaim.holds_of_wide 5 Try.f5 rfl rfl rfl rfl rfl rfl rfl ⟨rfl, rfl, rfl, rfl, rfl⟩ rfl rfl rfl rfl rfl (by kernel_rfl) Try.func5 (by kernel_rfl)
    (of_decide_eq_true (by kernel_rfl)) (by unfold Func.isWrapper; first | (rw [if_pos (by decide +kernel)]; kernel_rfl) | (rw [if_neg (by decide +kernel)]; exact ⟨rfl, rfl⟩))
    (fun os started H enc _ => lifted os started H enc)

theorem proved : Rows.B64BackSaid :=
  over
#print axioms proved
end Go.Proofs.Ytfmgnccgdffocaa.b64Back
