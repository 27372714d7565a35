/- Proves TextFolds: any text is folded just as the document says, what was folded is folded, and two texts are alike just if folded they are one. No condition. -/
import Derived.Test.YtpbbeeggblmneaaDoorRows
import Derived.WalkKit
import Derived.ProofKit
import Derived.OpenShut
import Derived.ShutString
import Derived.Test.YtpbbeeggblmneaaDoorCards
import Derived.Test.YtpbbeeggblmneaaDoorTie
import Derived.Lay
import Derived.SevenTiedAt
import Derived.Below
import Derived.Test.YtpbbeeggblmneaaDoorTextFrame
import Derived.Test.YtpbbeeggblmneaaDoorTextAwake
namespace Go.Proofs.YtpbbeeggblmneaaDoor.textFolds
open Go.ChangeShapes Go.WideShapes Go.ChangeAt Go.RowKit
open Go.ChangeMaps (open_string shut_string)
set_option linter.unusedVariables false      -- a walk need not use every 'w<i>' (that an integer argument fits its kind)


open TextMath

theorem walk (a0 : ByteArray) (a1 : ByteArray) (w0 : a0.size ≤ maxLen) (w1 : a1.size ≤ maxLen) (w : World) (hS : Std w.heap.size w) :
    Calls Tryd.prog 3 #[.string a0, .string a1] w fun e w' => e = .returned (.bool true) ∧ Below w.heap.size w w' := by
  have HS := Lib.hid hS; clear hS
  have n0 : Below w.heap.size w w := Below.refl _ _
  generalize hg : w.heap.size = g at *
  have hgw : g ≤ w.heap.size := by omega
  have G := Lib.hid hg; clear hg
  by_cases h1 : (20000 : Int) < a0.size
  · go_enter Tryd.func3, Tryd.ntmps3
    go_wp2_with fail
    refine (awake_any g _ HS.out hgw).mono ?_
    rintro e w1 ⟨rfl, hB⟩
    go_wp2_with fail
    go_ret
    exact ⟨rfl, hB⟩
  by_cases h2 : (20000 : Int) < a1.size
  · go_enter Tryd.func3, Tryd.ntmps3
    go_wp2_with fail
    refine (awake_any g _ HS.out hgw).mono ?_
    rintro e w1 ⟨rfl, hB⟩
    go_wp2_with fail
    go_ret
    exact ⟨rfl, hB⟩
  have hs : a0.size ≤ 20000 := by omega
  have ht : a1.size ≤ 20000 := by omega
  clear w0 w1
  have hf := foldS_size a0
  have hft := foldS_size a1
  have e1 := foldS_fold a0
  have e2 := foldS_cat a0 a1
  generalize hF : foldS a0 = f at *
  generalize hT : foldS a1 = t at *
  have hq : (f.toList == t.toList) = decide (f = t) := eq_toList
  have sc : (a0 ++ a1).size ≤ 40000 := by rw [ByteArray.size_append]; omega
  have c1 : ∀ w, Calls Tryd.prog 9 #[.string a0] w fun e w' => e = .returned (.string f) ∧ Below w.heap.size w w' := fun w => by have := fold_any a0 w (by omega); rwa [hF] at this
  have c2 : ∀ w, Calls Tryd.prog 10 #[.string a0] w fun e w' => e = .returned (.string f) ∧ Below w.heap.size w w' := fun w => by have := refFold_any a0 w (by omega); rwa [hF] at this
  have c3 : ∀ w, Calls Tryd.prog 9 #[.string f] w fun e w' => e = .returned (.string f) ∧ Below w.heap.size w w' := fun w => by have := fold_any f w (by omega); rwa [e1] at this
  have c4 : ∀ w, Calls Tryd.prog 10 #[.string a1] w fun e w' => e = .returned (.string t) ∧ Below w.heap.size w w' := fun w => by have := refFold_any a1 w (by omega); rwa [hT] at this
  have c5 : ∀ w, Calls Tryd.prog 11 #[.string a0, .string a1] w fun e w' => e = .returned (.bool (decide (f = t))) ∧ Below w.heap.size w w' := fun w => by have := same_any a0 a1 w (by omega); rwa [hF, hT] at this
  have c6 : ∀ w, Calls Tryd.prog 11 #[.string a0, .string f] w fun e w' => e = .returned (.bool true) ∧ Below w.heap.size w w' := fun w => by have := same_any a0 f w (by omega); rwa [hF, e1, decide_eq_true rfl] at this
  have c7 : ∀ w, Calls Tryd.prog 9 #[.string a1] w fun e w' => e = .returned (.string t) ∧ Below w.heap.size w w' := fun w => by have := fold_any a1 w (by omega); rwa [hT] at this
  have c8 : ∀ w, Calls Tryd.prog 9 #[.string (a0 ++ a1)] w fun e w' => e = .returned (.string (f ++ t)) ∧ Below w.heap.size w w' := fun w => by have := fold_any (a0 ++ a1) w (by omega); rwa [e2] at this
  clear e1 e2 hF hT sc
  generalize decide (f = t) = q at *
  have HQ := Lib.hid hq; clear hq
  have C1 := Lib.hid c1; clear c1
  have C2 := Lib.hid c2; clear c2
  have C3 := Lib.hid c3; clear c3
  have C4 := Lib.hid c4; clear c4
  have C5 := Lib.hid c5; clear c5
  have C6 := Lib.hid c6; clear c6
  have C7 := Lib.hid c7; clear c7
  have C8 := Lib.hid c8; clear c8
  have hf' : f.size ≤ 20000 := by omega
  have ht' : t.size ≤ 20000 := by omega
  clear hf hft
  go_enter Tryd.func3, Tryd.ntmps3
  go_wp2_with fail
  refine (awake_any g _ HS.out hgw).mono ?_
  rintro e w1 ⟨rfl, n1⟩
  have s1 := n1.size
  clear n0
  go_wp2_with fail
  refine (C1.out _).mono ?_
  rintro e w2 ⟨rfl, hB⟩
  have n2 := n1.trans (hB.mono (by omega))
  have s2 := n2.size
  clear hB n1 s1
  go_wp2_with fail
  refine (C2.out _).mono ?_
  rintro e w3 ⟨rfl, hB⟩
  have n3 := n2.trans (hB.mono (by omega))
  have s3 := n3.size
  clear hB n2 s2
  go_wp2_with fail
  refine (C3.out _).mono ?_
  rintro e w4 ⟨rfl, hB⟩
  have n4 := n3.trans (hB.mono (by omega))
  have s4 := n4.size
  clear hB n3 s3
  go_wp2_with fail
  refine (C5.out _).mono ?_
  rintro e w5 ⟨rfl, hB⟩
  have n5 := n4.trans (hB.mono (by omega))
  have s5 := n5.size
  clear hB n4 s4
  go_wp2_with fail
  refine (C2.out _).mono ?_
  rintro e w6 ⟨rfl, hB⟩
  have n6 := n5.trans (hB.mono (by omega))
  have s6 := n6.size
  clear hB n5 s5
  go_wp2_with fail
  refine (C4.out _).mono ?_
  rintro e w7 ⟨rfl, hB⟩
  have n7 := n6.trans (hB.mono (by omega))
  have s7 := n7.size
  clear hB n6 s6
  have hq := HQ.out
  go_wp2_with fail
  refine (C6.out _).mono ?_
  rintro e w8 ⟨rfl, hB⟩
  have n8 := n7.trans (hB.mono (by omega))
  have s8 := n8.size
  clear hB n7 s7 hq
  go_wp2_with fail
  refine (C8.out _).mono ?_
  rintro e w9 ⟨rfl, hB⟩
  have n9 := n8.trans (hB.mono (by omega))
  have s9 := n9.size
  clear hB n8 s8
  go_wp2_with fail
  refine (C7.out _).mono ?_
  rintro e w10 ⟨rfl, hB⟩
  have n10 := n9.trans (hB.mono (by omega))
  clear hB n9 s9
  go_wp2_with fail
  go_ret
  exact ⟨rfl, n10⟩

set_option maxRecDepth 100000 in
theorem lifted (os : Os) (started : os.Started) (H : Type) (enc : TypeId × Value → H) :
    ReturnsInHanded {} Tryd.checked os 3 .any (fun w args => (Rows.textFoldsSpec.pre enc Tryd.prog Tryd.f3 [] false w args ∧ laidMetH Tryd.prog Rows.textFoldsRow.laid w) ∧ sizedMet enc Tryd.prog Tryd.f3 (OpenSpec.ofChange Rows.textFoldsSpec) false w args) (Rows.textFoldsSpec.post enc Tryd.prog Tryd.f3 false true false false) := by
  refine wrap_laid (C := Tryd.checked) (X := fun w => laidMetH Tryd.prog Rows.textFoldsRow.laid w) (fun _ _ hh h => h.of_heap hh) own started (by kernel_rfl) Tryd.func3
    (ChangeSpec.witness_shaped (enc := enc) (C := Tryd.checked) (os := os) (X := fun w _ => laidMetH Tryd.prog Rows.textFoldsRow.laid w) false (World.laidAll Tryd.prog os Rows.textFoldsRow.laid) #[.string ByteArray.empty, .string ByteArray.empty] 8 (World.laidAll_os _ _ _)
      (World.shaped_of_ZipB (by kernel_rfl) (by kernel_rfl)) (by kernel_rfl) (by kernel_rfl) (by kernel_rfl)
      (by rw [MakeChecks.laidMetH_plain _ _ _ (by kernel_rfl)]; exact laidMet_laidAll _ (by kernel_rfl) (by kernel_rfl))) ?_
  intro W base args ds gs before hval0 hW hsh hL
  have hstd := std_of hsh hL
  have hval : ∀ (j : Nat) t v, Tryd.f3.params[j]? = some t → args[j]? = some v → Value.okWide Tryd.prog W .any base t v := hval0
  have hW' := hW
  obtain ⟨p, q, hA0, hV, rfl, hfz, hnd⟩ := hW
  have hA : DataW.TrodAll enc Tryd.prog W 0 (fun _ => true) true Tryd.f3.params.toList args.toList ds p := hA0
  rw [Tryd.params3] at hA hval
  obtain ⟨v0, vs0, d0, ds0, p0, q0, hargs, rfl, rfl, h0, r0⟩ := trodAll_cons hA
  obtain ⟨v1, vs1, d1, ds1, p1, q1, rfl, rfl, rfl, h1, r1⟩ := trodAll_cons r0
  obtain ⟨rfl, rfl, rfl⟩ := trodAll_nil r1
  obtain rfl : args = #[v0, v1] := by cases args; simp_all
  obtain ⟨rfl, rfl⟩ := trodVars_none hV
  obtain ⟨a0, rfl, rfl, rfl, w0⟩ := open_string Tryd.underlying9 (hval 0 9 v0 rfl rfl) h0
  obtain ⟨a1, rfl, rfl, rfl, w1⟩ := open_string Tryd.underlying9 (hval 1 9 v1 rfl rfl) h1
  clear hA0 hval0
  simp only [List.append_nil] at hW'
  refine (walk a0 a1 w0 w1 W hstd).mono fun e W' ⟨he, hg⟩ => ?_
  subst he
  exact ⟨_, rfl, _, _, _, [], [], [], hW', (trodAll_cons_mk (shut_bool Tryd.underlying4 _) trodAll_mk0), (trodAll_cons_mk (shut_string Tryd.underlying9 w0) (trodAll_cons_mk (shut_string Tryd.underlying9 w1) trodAll_mk0)), rfl, hg.frame _, fun h => by cases h⟩

theorem over : Rows.textFoldsRow.holds Tryd.pinned (OpenSpec.ofChange Rows.textFoldsSpec) :=
  OpenClaim.holds_of_wide 3 Tryd.f3 rfl rfl rfl rfl rfl rfl rfl ⟨rfl, rfl, rfl, rfl, rfl⟩ rfl rfl rfl rfl rfl (by kernel_rfl) Tryd.func3 (by kernel_rfl)
    (of_decide_eq_true (by kernel_rfl)) (by unfold Func.isWrapper; first | (rw [if_pos (by decide +kernel)]; kernel_rfl) | (rw [if_neg (by decide +kernel)]; exact ⟨rfl, rfl⟩))
    (fun os started H enc _ => lifted os started H enc)

theorem proved : Rows.TextFoldsCardSaid :=
  Claim7.holds_tied_plain_at .later [] [.data, .data, .data, .data, .pinned] true (true, "9807dafe3f6d15e133c68866b88ae7e123aecc51ae5408fe4f2340aba51fdb13") false
    over (fun _ h => by cases h) (by kernel_rfl) (fun _ h => by cases h) textFolds_row_tie rfl ⟨rfl, rfl⟩ (by kernel_rfl) rfl
    (fun f fn hf hfn => by
      obtain rfl : f = 3 := Option.some.inj ((show Tryd.prog.funcNamed "nuncio/nunciolaw02.TextFolds" = some 3 by kernel_rfl).symm.trans hf) |>.symm
      obtain rfl : fn = Tryd.f3 := (Option.some.inj (Tryd.func3.symm.trans hfn)).symm
      exact ⟨by kernel_rfl, fun j t ht => by
        rw [Tryd.params3] at ht
        have hm : t ∈ [9, 9] := by simpa using Array.mem_of_getElem? ht
        have hall : ([9, 9].all fun u => !Tryd.prog.wantsStandIn u) = true := by kernel_rfl
        exact (show Tryd.prog.wantsStandIn t = false by simpa using List.all_eq_true.1 hall t hm)⟩)
    (by kernel_rfl)
#print axioms proved
end Go.Proofs.YtpbbeeggblmneaaDoor.textFolds
