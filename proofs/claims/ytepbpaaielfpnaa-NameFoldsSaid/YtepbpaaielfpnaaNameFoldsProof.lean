/- Proves NameFolds: names are folded, and held against one another and against zones, just as the document says; of what is no name nothing is told. No condition. -/
import Derived.Test.YtepbpaaielfpnaaRows
import Derived.WalkKit
import Derived.ProofKit
import Derived.OpenShut
import Derived.ShutString
import Derived.Test.YtepbpaaielfpnaaNameAwake
import Derived.Below
namespace Go.Proofs.Ytepbpaaielfpnaa.nameFolds
open Go.ChangeShapes Go.WideShapes Go.ChangeAt Go.RowKit
open Go.ChangeMaps (open_string shut_string)
set_option linter.unusedVariables false      -- a walk need not use every 'w<i>' (that an integer argument fits its kind)

theorem own : ownKnob Try.prog.godebug = none := by kernel_rfl

open Bytes Low NameMath
theorem same_fold {s x : ByteArray} {q : Bool} (hx : mk (foldN s.data.toList) = x) (hq : isN s.data.toList = q) : sameN s.data.toList x.data.toList = q := by
  rw [← hx, mk_list]
  cases q with
  | true =>
    obtain ⟨L, hL⟩ := isN_some hq
    rw [foldN_yes hq, sameN_of hL (labels_low hL)]
    refine decide_eq_true ?_
    unfold lowLs
    rw [List.map_map]
    refine congrArg (fun f => List.map f L) ?_
    funext l
    exact (lowL_low l).symm
  | false =>
    unfold sameN
    rw [hq]
    rfl
theorem foldN_len (s : ByteArray) : (mk (foldN s.data.toList)).size ≤ s.size := by
  rw [mk_size, Lib.size_eq]
  unfold foldN
  split
  · rw [low_len]; exact Nat.le_refl _
  · exact Nat.zero_le _

theorem walk (a0 : ByteArray) (a1 : ByteArray) (w0 : a0.size ≤ maxLen) (w1 : a1.size ≤ maxLen) (w : World) :
    Calls Try.prog 4 #[.string a0, .string a1] w fun e w' => e = .returned (.bool true) ∧ Below w.heap.size w w' := by
  have n0 : Below w.heap.size w w := Below.refl _ _
  by_cases h1 : (5000 : Int) < a0.size
  · go_enter Try.func4, Try.ntmps4
    go_wp2_with fail
    refine (awake_any _).mono ?_
    rintro e w1 ⟨rfl, hB⟩
    go_wp2_with fail
    go_ret
    exact ⟨rfl, hB⟩
  by_cases h2 : (5000 : Int) < a1.size
  · go_enter Try.func4, Try.ntmps4
    go_wp2_with fail
    refine (awake_any _).mono ?_
    rintro e w1 ⟨rfl, hB⟩
    go_wp2_with fail
    go_ret
    exact ⟨rfl, hB⟩
  have hs : a0.size ≤ 5000 := by omega
  have ht : a1.size ≤ 5000 := by omega
  obtain ⟨x, hx⟩ : ∃ x, mk (foldN a0.data.toList) = x := ⟨_, rfl⟩
  obtain ⟨q1, h1'⟩ : ∃ q, sameN a0.data.toList a1.data.toList = q := ⟨_, rfl⟩
  obtain ⟨q2, h2'⟩ : ∃ q, underN a0.data.toList a1.data.toList = q := ⟨_, rfl⟩
  obtain ⟨q3, h3'⟩ : ∃ q, underN a1.data.toList a0.data.toList = q := ⟨_, rfl⟩
  obtain ⟨q4, h4'⟩ : ∃ q, isN a0.data.toList = q := ⟨_, rfl⟩
  have HS := Lib.hid (same_fold hx h4')
  have hxl := foldN_len a0
  rw [hx] at hxl
  have HX := Lib.hid hx; clear hx
  have H1 := Lib.hid h1'; clear h1'
  have H2 := Lib.hid h2'; clear h2'
  have H3 := Lib.hid h3'; clear h3'
  have H4 := Lib.hid h4'; clear h4'
  have fx : (x.toList == x.toList) = true := beq_self_eq_true _
  have e1 : (q1 == q1) = true := beq_self_eq_true _
  have e2 : (q2 == q2) = true := beq_self_eq_true _
  have e3 : (q3 == q3) = true := beq_self_eq_true _
  have e4 : (q4 == q4) = true := beq_self_eq_true _
  go_enter Try.func4, Try.ntmps4
  go_wp2_with fail
  refine (awake_any _).mono ?_
  rintro e w1 ⟨rfl, n1⟩
  have s1 := n1.size
  clear n0
  go_wp2_with fail
  refine (nameFold_is a0 x _ (by omega) HX).mono ?_
  rintro e w2 ⟨rfl, hB⟩
  have n2 := n1.trans (hB.mono s1)
  have s2 := n2.size
  clear hB n1 s1
  go_wp2_with fail
  refine (refNameFold_is a0 x _ (by omega) HX).mono ?_
  rintro e w3 ⟨rfl, hB⟩
  have n3 := n2.trans (hB.mono s2)
  have s3 := n3.size
  clear hB n2 s2
  go_wp2_with fail
  refine (nameSame_is a0 a1 q1 _ (by omega) (by omega) H1).mono ?_
  rintro e w4 ⟨rfl, hB⟩
  have n4 := n3.trans (hB.mono s3)
  have s4 := n4.size
  clear hB n3 s3
  go_wp2_with fail
  refine (refNameSame_is a0 a1 q1 _ (by omega) (by omega) H1).mono ?_
  rintro e w5 ⟨rfl, hB⟩
  have n5 := n4.trans (hB.mono s4)
  have s5 := n5.size
  clear hB n4 s4
  go_wp2_with fail
  refine (under_is a0 a1 q2 _ (by omega) (by omega) H2).mono ?_
  rintro e w6 ⟨rfl, hB⟩
  have n6 := n5.trans (hB.mono s5)
  have s6 := n6.size
  clear hB n5 s5
  go_wp2_with fail
  refine (refUnder_is a0 a1 q2 _ (by omega) (by omega) H2).mono ?_
  rintro e w7 ⟨rfl, hB⟩
  have n7 := n6.trans (hB.mono s6)
  have s7 := n7.size
  clear hB n6 s6
  go_wp2_with fail
  refine (under_is a1 a0 q3 _ (by omega) (by omega) H3).mono ?_
  rintro e w8 ⟨rfl, hB⟩
  have n8 := n7.trans (hB.mono s7)
  have s8 := n8.size
  clear hB n7 s7
  go_wp2_with fail
  refine (refUnder_is a1 a0 q3 _ (by omega) (by omega) H3).mono ?_
  rintro e w9 ⟨rfl, hB⟩
  have n9 := n8.trans (hB.mono s8)
  have s9 := n9.size
  clear hB n8 s8
  go_wp2_with fail
  refine (nameFold_is a0 x _ (by omega) HX).mono ?_
  rintro e w10 ⟨rfl, hB⟩
  have n10 := n9.trans (hB.mono s9)
  have s10 := n10.size
  clear hB n9 s9
  go_wp2_with fail
  refine (nameSame_is a0 x q4 _ (by omega) (by omega) HS).mono ?_
  rintro e w11 ⟨rfl, hB⟩
  have n11 := n10.trans (hB.mono s10)
  have s11 := n11.size
  clear hB n10 s10
  go_wp2_with fail
  refine (is_is a0 q4 _ (by omega) H4).mono ?_
  rintro e w' ⟨rfl, rfl⟩
  go_wp2_with fail
  go_ret
  exact ⟨rfl, n11⟩

set_option maxRecDepth 100000 in
theorem lifted (os : Os) (started : os.Started) (H : Type) (enc : TypeId × Value → H) :
    ReturnsInHanded {} Try.checked os 4 .any (Rows.nameFoldsSpec.pre6 enc Try.prog Try.f4 Rows.nameFoldsRow.domain false) (Rows.nameFoldsSpec.post enc Try.prog Try.f4 false true false false) := by
  refine returnsInHanded_of_change (C := Try.checked) own started (by kernel_rfl) Try.func4
    (ChangeSpec.witness6 (enc := enc) (C := Try.checked) false ⟨#[], #[.string ByteArray.empty, .string ByteArray.empty], []⟩ 8 (by kernel_rfl) (by kernel_rfl) (by kernel_rfl) (by kernel_rfl)) ?_
  intro W base args ds gs before hval0 hW hcnd _
  have hval : ∀ (j : Nat) t v, Try.f4.params[j]? = some t → args[j]? = some v → Value.okWide Try.prog W .any base t v := hval0
  have hW' := hW
  obtain ⟨p, q, hA0, hV, rfl, hfz, hnd⟩ := hW
  have hA : DataW.TrodAll enc Try.prog W 0 (fun _ => true) true Try.f4.params.toList args.toList ds p := hA0
  rw [Try.params4] at hA hval
  obtain ⟨v0, vs0, d0, ds0, p0, q0, hargs, rfl, rfl, h0, r0⟩ := trodAll_cons hA
  obtain ⟨v1, vs1, d1, ds1, p1, q1, rfl, rfl, rfl, h1, r1⟩ := trodAll_cons r0
  obtain ⟨rfl, rfl, rfl⟩ := trodAll_nil r1
  obtain rfl : args = #[v0, v1] := by cases args; simp_all
  obtain ⟨rfl, rfl⟩ := trodVars_none hV
  obtain ⟨a0, rfl, rfl, rfl, w0⟩ := open_string Try.underlying9 (hval 0 9 v0 rfl rfl) h0
  obtain ⟨a1, rfl, rfl, rfl, w1⟩ := open_string Try.underlying9 (hval 1 9 v1 rfl rfl) h1
  clear hA0 hval0
  simp only [List.append_nil] at hW'
  refine (walk a0 a1 w0 w1 W).mono fun e W' ⟨he, hg⟩ => ?_
  subst he
  exact ⟨_, rfl, _, _, _, [], [], [], hW', (trodAll_cons_mk (shut_bool Try.underlying4 _) trodAll_mk0), (trodAll_cons_mk (shut_string Try.underlying9 w0) (trodAll_cons_mk (shut_string Try.underlying9 w1) trodAll_mk0)), rfl, hg.frame _, fun h => by cases h⟩

theorem over : Rows.nameFoldsRow.holds Try.pinned (OpenSpec.ofChange Rows.nameFoldsSpec) :=
  OpenClaim.holds_of_wide 4 Try.f4 rfl rfl rfl rfl rfl rfl rfl ⟨rfl, rfl, rfl, rfl, rfl⟩ rfl rfl rfl rfl rfl (by kernel_rfl) Try.func4 (by kernel_rfl)
    (of_decide_eq_true (by kernel_rfl)) (by unfold Func.isWrapper; first | (rw [if_pos (by decide +kernel)]; kernel_rfl) | (rw [if_neg (by decide +kernel)]; exact ⟨rfl, rfl⟩))
    (fun os started H enc _ => lifted os started H enc)

theorem proved : Rows.NameFoldsSaid :=
  over
#print axioms proved
end Go.Proofs.Ytepbpaaielfpnaa.nameFolds
