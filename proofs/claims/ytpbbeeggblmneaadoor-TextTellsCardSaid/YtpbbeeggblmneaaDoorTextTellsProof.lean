/- Proves TextTells: any text is told to be a token, a value, or not, and has a media type, just as the document says. No condition. -/
import Derived.Test.YtpbbeeggblmneaaDoorRows
import Derived.WalkKit
import Derived.ProofKit
import Derived.OpenShut
import Derived.ShutString
import Derived.Test.YtpbbeeggblmneaaDoorCards
import Derived.Test.YtpbbeeggblmneaaDoorTie
import Derived.Lay
import Derived.SevenTiedAt
import Derived.Below
import Derived.Test.YtpbbeeggblmneaaDoorTextFrame
import Derived.Test.YtpbbeeggblmneaaDoorTextAwake
namespace Go.Proofs.YtpbbeeggblmneaaDoor.textTells
open Go.ChangeShapes Go.WideShapes Go.ChangeAt Go.RowKit
open Go.ChangeMaps (open_string shut_string)
set_option linter.unusedVariables false      -- a walk need not use every 'w<i>' (that an integer argument fits its kind)


open TextMath

theorem walk (a0 : ByteArray) (w0 : a0.size ≤ maxLen) (w : World) (hS : Std w.heap.size w) :
    Calls Tryd.prog 4 #[.string a0] w fun e w' => e = .returned (.bool true) ∧ Below w.heap.size w w' := by
  have HS := Lib.hid hS; clear hS
  have n0 : Below w.heap.size w w := Below.refl _ _
  generalize hg : w.heap.size = g at *
  have hgw : g ≤ w.heap.size := by omega
  have G := Lib.hid hg; clear hg
  by_cases h1 : (20000 : Int) < a0.size
  · go_enter Tryd.func4, Tryd.ntmps4
    go_wp2_with fail
    refine (awake_any g _ HS.out hgw).mono ?_
    rintro e w1 ⟨rfl, hB⟩
    go_wp2_with fail
    go_ret
    exact ⟨rfl, hB⟩
  have hs : a0.size ≤ 20000 := by omega
  clear w0
  generalize ht : tokB a0.data.toList = t1 at *
  have HT := Lib.hid ht; clear ht
  generalize hv : valueB a0.data.toList = t2 at *
  have HV := Lib.hid hv; clear hv
  generalize hm : mediaS a0 = m at *
  have HM := Lib.hid hm; clear hm
  have ct : ∀ w, Calls Tryd.prog 12 #[.string a0] w fun e w' => e = .returned (.bool t1) ∧ w = w' := fun w => by have := token_any a0 w (by omega); rwa [HT.out] at this
  have ct' : ∀ w, Calls Tryd.prog 13 #[.string a0] w fun e w' => e = .returned (.bool t1) ∧ w = w' := fun w => by have := refToken_any a0 w (by omega); rwa [HT.out] at this
  have cv : ∀ w, Calls Tryd.prog 14 #[.string a0] w fun e w' => e = .returned (.bool t2) ∧ Below w.heap.size w w' := fun w => by have := value_any a0 w (by omega); rwa [HV.out] at this
  have cv' : ∀ w, Calls Tryd.prog 15 #[.string a0] w fun e w' => e = .returned (.bool t2) ∧ w = w' := fun w => by have := refValue_any a0 w (by omega); rwa [HV.out] at this
  have cm : ∀ w, Std g w → Calls Tryd.prog 16 #[.string a0] w fun e w' => e = .returned (.string m) ∧ Below w.heap.size w w' := fun w h => by have := media_any g a0 w h (by omega); rwa [HM.out] at this
  have cm' : ∀ w, Calls Tryd.prog 17 #[.string a0] w fun e w' => e = .returned (.string m) ∧ Below w.heap.size w w' := fun w => by have := refMedia_any a0 w (by omega); rwa [HM.out] at this
  have CT := Lib.hid ct; clear ct
  have CT' := Lib.hid ct'; clear ct'
  have CV := Lib.hid cv; clear cv
  have CV' := Lib.hid cv'; clear cv'
  have CM := Lib.hid cm; clear cm
  have CM' := Lib.hid cm'; clear cm'
  go_enter Tryd.func4, Tryd.ntmps4
  go_wp2_with fail
  refine (awake_any g _ HS.out hgw).mono ?_
  rintro e w1 ⟨rfl, n1⟩
  have s1 := n1.size
  clear n0
  go_wp2_with fail
  refine (CT.out _).mono ?_
  rintro e w' ⟨rfl, rfl⟩
  go_wp2_with fail
  refine (CT'.out _).mono ?_
  rintro e w' ⟨rfl, rfl⟩
  go_wp2_with fail
  refine (CV.out _).mono ?_
  rintro e w2 ⟨rfl, hB⟩
  have n2 := n1.trans (hB.mono (by omega))
  have s2 := n2.size
  clear hB n1 s1
  go_wp2_with fail
  refine (CV'.out _).mono ?_
  rintro e w' ⟨rfl, rfl⟩
  go_wp2_with fail
  refine (CM.out _ (HS.out.on n2)).mono ?_
  rintro e w3 ⟨rfl, hB⟩
  have n3 := n2.trans (hB.mono (by omega))
  have s3 := n3.size
  clear hB n2 s2
  go_wp2_with fail
  refine (CM'.out _).mono ?_
  rintro e w4 ⟨rfl, hB⟩
  have n4 := n3.trans (hB.mono (by omega))
  clear hB n3 s3
  go_wp2_with fail
  go_ret
  exact ⟨rfl, n4⟩

set_option maxRecDepth 100000 in
theorem lifted (os : Os) (started : os.Started) (H : Type) (enc : TypeId × Value → H) :
    ReturnsInHanded {} Tryd.checked os 4 .any (fun w args => (Rows.textTellsSpec.pre enc Tryd.prog Tryd.f4 [] false w args ∧ laidMetH Tryd.prog Rows.textTellsRow.laid w) ∧ sizedMet enc Tryd.prog Tryd.f4 (OpenSpec.ofChange Rows.textTellsSpec) false w args) (Rows.textTellsSpec.post enc Tryd.prog Tryd.f4 false true false false) := by
  refine wrap_laid (C := Tryd.checked) (X := fun w => laidMetH Tryd.prog Rows.textTellsRow.laid w) (fun _ _ hh h => h.of_heap hh) own started (by kernel_rfl) Tryd.func4
    (ChangeSpec.witness_shaped (enc := enc) (C := Tryd.checked) (os := os) (X := fun w _ => laidMetH Tryd.prog Rows.textTellsRow.laid w) false (World.laidAll Tryd.prog os Rows.textTellsRow.laid) #[.string ByteArray.empty] 8 (World.laidAll_os _ _ _)
      (World.shaped_of_ZipB (by kernel_rfl) (by kernel_rfl)) (by kernel_rfl) (by kernel_rfl) (by kernel_rfl)
      (by rw [MakeChecks.laidMetH_plain _ _ _ (by kernel_rfl)]; exact laidMet_laidAll _ (by kernel_rfl) (by kernel_rfl))) ?_
  intro W base args ds gs before hval0 hW hsh hL
  have hstd := std_of hsh hL
  have hval : ∀ (j : Nat) t v, Tryd.f4.params[j]? = some t → args[j]? = some v → Value.okWide Tryd.prog W .any base t v := hval0
  have hW' := hW
  obtain ⟨p, q, hA0, hV, rfl, hfz, hnd⟩ := hW
  have hA : DataW.TrodAll enc Tryd.prog W 0 (fun _ => true) true Tryd.f4.params.toList args.toList ds p := hA0
  rw [Tryd.params4] at hA hval
  obtain ⟨v0, vs0, d0, ds0, p0, q0, hargs, rfl, rfl, h0, r0⟩ := trodAll_cons hA
  obtain ⟨rfl, rfl, rfl⟩ := trodAll_nil r0
  obtain rfl : args = #[v0] := by cases args; simp_all
  obtain ⟨rfl, rfl⟩ := trodVars_none hV
  obtain ⟨a0, rfl, rfl, rfl, w0⟩ := open_string Tryd.underlying9 (hval 0 9 v0 rfl rfl) h0
  clear hA0 hval0
  simp only [List.append_nil] at hW'
  refine (walk a0 w0 W hstd).mono fun e W' ⟨he, hg⟩ => ?_
  subst he
  exact ⟨_, rfl, _, _, _, [], [], [], hW', (trodAll_cons_mk (shut_bool Tryd.underlying4 _) trodAll_mk0), (trodAll_cons_mk (shut_string Tryd.underlying9 w0) trodAll_mk0), rfl, hg.frame _, fun h => by cases h⟩

theorem over : Rows.textTellsRow.holds Tryd.pinned (OpenSpec.ofChange Rows.textTellsSpec) :=
  OpenClaim.holds_of_wide 4 Tryd.f4 rfl rfl rfl rfl rfl rfl rfl ⟨rfl, rfl, rfl, rfl, rfl⟩ rfl rfl rfl rfl rfl (by kernel_rfl) Tryd.func4 (by kernel_rfl)
    (of_decide_eq_true (by kernel_rfl)) (by unfold Func.isWrapper; first | (rw [if_pos (by decide +kernel)]; kernel_rfl) | (rw [if_neg (by decide +kernel)]; exact ⟨rfl, rfl⟩))
    (fun os started H enc _ => lifted os started H enc)

theorem proved : Rows.TextTellsCardSaid :=
  Claim7.holds_tied_plain_at .later [] [.data, .data, .data, .data, .pinned] true (true, "9807dafe3f6d15e133c68866b88ae7e123aecc51ae5408fe4f2340aba51fdb13") false
    over (fun _ h => by cases h) (by kernel_rfl) (fun _ h => by cases h) textTells_row_tie rfl ⟨rfl, rfl⟩ (by kernel_rfl) rfl
    (fun f fn hf hfn => by
      obtain rfl : f = 4 := Option.some.inj ((show Tryd.prog.funcNamed "nuncio/nunciolaw02.TextTells" = some 4 by kernel_rfl).symm.trans hf) |>.symm
      obtain rfl : fn = Tryd.f4 := (Option.some.inj (Tryd.func4.symm.trans hfn)).symm
      exact ⟨by kernel_rfl, fun j t ht => by
        rw [Tryd.params4] at ht
        have hm : t ∈ [9] := by simpa using Array.mem_of_getElem? ht
        have hall : ([9].all fun u => !Tryd.prog.wantsStandIn u) = true := by kernel_rfl
        exact (show Tryd.prog.wantsStandIn t = false by simpa using List.all_eq_true.1 hall t hm)⟩)
    (by kernel_rfl)
#print axioms proved
end Go.Proofs.YtpbbeeggblmneaaDoor.textTells
