/- Proves HuffBack: what was encoded is decoded as it was; what is decoded was encoded as just these bytes. No condition. -/
import Derived.Test.YtfnfgjpeefagpaaRows
import Derived.WalkKit
import Derived.ProofKit
import Derived.OpenShut
import Derived.ShutString
import Derived.Test.YtfnfgjpeefagpaaHfAwake
import Derived.Below
namespace Go.Proofs.Ytfnfgjpeefagpaa.huffBack
open Go.ChangeShapes Go.WideShapes Go.ChangeAt Go.RowKit
open Go.ChangeMaps (open_string shut_string)
set_option linter.unusedVariables false      -- a walk need not use every 'w<i>' (that an integer argument fits its kind)

theorem own : ownKnob Try.prog.godebug = none := by kernel_rfl

open Bytes Hf

theorem walk (a0 : ByteArray) (a1 : ByteArray) (w0 : a0.size ≤ maxLen) (w1 : a1.size ≤ maxLen) (w : World) :
    Calls Try.prog 6 #[.string a0, .string a1] w fun e w' => e = .returned (.bool true) ∧ Below w.heap.size w w' := by
  by_cases h1 : (2000 : Int) < a0.size
  · go_enter Try.func6, Try.ntmps6
    go_wp2_with fail
    refine (awake_any _).mono ?_
    rintro e w1 ⟨rfl, hB⟩
    go_wp2_with fail
    go_ret
    exact ⟨rfl, hB⟩
  by_cases h2 : (2000 : Int) < a1.size
  · go_enter Try.func6, Try.ntmps6
    go_wp2_with fail
    refine (awake_any _).mono ?_
    rintro e w1 ⟨rfl, hB⟩
    go_wp2_with fail
    go_ret
    exact ⟨rfl, hB⟩
  obtain ⟨r, hr⟩ : ∃ r, mk (enc a0.data.toList) = r := ⟨_, rfl⟩
  have hrs : r.size ≤ 10000 := by
    rw [← hr, mk_size, enc_len]
    have := encB_len a0.data.toList
    rw [← Lib.size_eq] at this
    omega
  have HD1 := Lib.hid (show mk (decT (Hf.decode r.data.toList)) = a0 by rw [← hr, mk_list, decode_enc]; exact mk_data a0)
  have HD2 := Lib.hid (show decC (Hf.decode r.data.toList) = 0 by rw [← hr, mk_list, decode_enc]; rfl)
  have HR := Lib.hid hr
  have f1 : (!(a0.toList == a0.toList)) = false := by rw [beq_self_eq_true]; rfl
  clear hr
  cases hd : Hf.decode a1.data.toList with
  | none =>
    obtain ⟨z, hz⟩ : ∃ z, mk [] = z := ⟨_, rfl⟩
    have HE1 := Lib.hid (show mk (decT (Hf.decode a1.data.toList)) = z by rw [hd]; exact hz)
    have HE2 := Lib.hid (show decC (Hf.decode a1.data.toList) = 91 by rw [hd]; rfl)
    have f2 : z.toList.isEmpty = true := by rw [← hz, Lib.toList_data]; rfl
    clear hd hz
    go_enter Try.func6, Try.ntmps6
    go_wp2_with fail
    refine (awake_any _).mono ?_
    rintro e w1 ⟨rfl, hB⟩
    go_wp2_with fail
    refine (encode_is a0 r _ (by omega) HR).mono ?_
    rintro e w2 ⟨rfl, hB2⟩
    have n2 := hB.trans (hB2.mono hB.size)
    go_wp2_with fail
    refine (decode_is r a0 0 _ (by omega) HD1 HD2).mono ?_
    rintro e w3 ⟨rfl, hB3⟩
    have n3 := n2.trans (hB3.mono n2.size)
    go_wp2_with fail
    refine (decode_is a1 z 91 _ (by omega) HE1 HE2).mono ?_
    rintro e w4 ⟨rfl, hB4⟩
    have n4 := n3.trans (hB4.mono n3.size)
    go_wp2_with fail
    go_ret
    exact ⟨rfl, n4⟩
  | some y =>
    obtain ⟨z, hz⟩ : ∃ z, mk y = z := ⟨_, rfl⟩
    have HE1 := Lib.hid (show mk (decT (Hf.decode a1.data.toList)) = z by rw [hd]; exact hz)
    have HE2 := Lib.hid (show decC (Hf.decode a1.data.toList) = 0 by rw [hd]; rfl)
    have hy := enc_decode hd
    have HY := Lib.hid (show mk (enc z.data.toList) = a1 by rw [← hz, mk_list, hy]; exact mk_data a1)
    have hzs : z.size ≤ 10000 := by
      have h3 := congrArg List.length hy
      have h4 := encB_len y
      rw [enc_len, ← Lib.size_eq] at h3
      rw [← hz, mk_size]
      omega
    have f2 : (a1.toList == a1.toList) = true := beq_self_eq_true _
    clear hd hz hy
    go_enter Try.func6, Try.ntmps6
    go_wp2_with fail
    refine (awake_any _).mono ?_
    rintro e w1 ⟨rfl, hB⟩
    go_wp2_with fail
    refine (encode_is a0 r _ (by omega) HR).mono ?_
    rintro e w2 ⟨rfl, hB2⟩
    have n2 := hB.trans (hB2.mono hB.size)
    go_wp2_with fail
    refine (decode_is r a0 0 _ (by omega) HD1 HD2).mono ?_
    rintro e w3 ⟨rfl, hB3⟩
    have n3 := n2.trans (hB3.mono n2.size)
    go_wp2_with fail
    refine (decode_is a1 z 0 _ (by omega) HE1 HE2).mono ?_
    rintro e w4 ⟨rfl, hB4⟩
    have n4 := n3.trans (hB4.mono n3.size)
    go_wp2_with fail
    refine (encode_is z a1 _ (by omega) HY).mono ?_
    rintro e w5 ⟨rfl, hB5⟩
    have n5 := n4.trans (hB5.mono n4.size)
    go_wp2_with fail
    go_ret
    exact ⟨rfl, n5⟩

set_option maxRecDepth 100000 in
theorem lifted (os : Os) (started : os.Started) (H : Type) (enc : TypeId × Value → H) :
    ReturnsInHanded {} Try.checked os 6 .any (Rows.huffBackSpec.pre6 enc Try.prog Try.f6 Rows.huffBackRow.domain false) (Rows.huffBackSpec.post enc Try.prog Try.f6 false true false false) := by
  refine returnsInHanded_of_change (C := Try.checked) own started (by kernel_rfl) Try.func6
    (ChangeSpec.witness6 (enc := enc) (C := Try.checked) false ⟨#[], #[.string ByteArray.empty, .string ByteArray.empty], []⟩ 8 (by kernel_rfl) (by kernel_rfl) (by kernel_rfl) (by kernel_rfl)) ?_
  intro W base args ds gs before hval0 hW hcnd _
  have hval : ∀ (j : Nat) t v, Try.f6.params[j]? = some t → args[j]? = some v → Value.okWide Try.prog W .any base t v := hval0
  have hW' := hW
  obtain ⟨p, q, hA0, hV, rfl, hfz, hnd⟩ := hW
  have hA : DataW.TrodAll enc Try.prog W 0 (fun _ => true) true Try.f6.params.toList args.toList ds p := hA0
  rw [Try.params6] at hA hval
  obtain ⟨v0, vs0, d0, ds0, p0, q0, hargs, rfl, rfl, h0, r0⟩ := trodAll_cons hA
  obtain ⟨v1, vs1, d1, ds1, p1, q1, rfl, rfl, rfl, h1, r1⟩ := trodAll_cons r0
  obtain ⟨rfl, rfl, rfl⟩ := trodAll_nil r1
  obtain rfl : args = #[v0, v1] := by cases args; simp_all
  obtain ⟨rfl, rfl⟩ := trodVars_none hV
  obtain ⟨a0, rfl, rfl, rfl, w0⟩ := open_string Try.underlying9 (hval 0 9 v0 rfl rfl) h0
  obtain ⟨a1, rfl, rfl, rfl, w1⟩ := open_string Try.underlying9 (hval 1 9 v1 rfl rfl) h1
  clear hA0 hval0
  simp only [List.append_nil] at hW'
  refine (walk a0 a1 w0 w1 W).mono fun e W' ⟨he, hg⟩ => ?_
  subst he
  exact ⟨_, rfl, _, _, _, [], [], [], hW', (trodAll_cons_mk (shut_bool Try.underlying4 _) trodAll_mk0), (trodAll_cons_mk (shut_string Try.underlying9 w0) (trodAll_cons_mk (shut_string Try.underlying9 w1) trodAll_mk0)), rfl, hg.frame _, fun h => by cases h⟩

theorem over : Rows.huffBackRow.holds Try.pinned (OpenSpec.ofChange Rows.huffBackSpec) :=
  OpenClaim.holds_of_wide 6 Try.f6 rfl rfl rfl rfl rfl rfl rfl ⟨rfl, rfl, rfl, rfl, rfl⟩ rfl rfl rfl rfl rfl (by kernel_rfl) Try.func6 (by kernel_rfl)
    (of_decide_eq_true (by kernel_rfl)) (by unfold Func.isWrapper; first | (rw [if_pos (by decide +kernel)]; kernel_rfl) | (rw [if_neg (by decide +kernel)]; exact ⟨rfl, rfl⟩))
    (fun os started H enc _ => lifted os started H enc)

theorem proved : Rows.HuffBackSaid :=
  over
#print axioms proved
end Go.Proofs.Ytfnfgjpeefagpaa.huffBack
