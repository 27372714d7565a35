/- Proves ReadNames: at any place of any bytes there is just the document's name, or its error. No condition. -/
import Derived.Test.YtngbifdenbfepaaRows
import Derived.WalkKit
import Derived.ProofKit
import Derived.OpenShut
import Derived.ShutString
import Derived.Test.YtngbifdenbfepaaReadAwake
import Derived.Test.YtngbifdenbfepaaRefNm
import Derived.Below
namespace Go.Proofs.Ytngbifdenbfepaa.readNames
open Go.ChangeShapes Go.WideShapes Go.ChangeAt Go.RowKit
open Go.ChangeMaps (open_string shut_string)
set_option linter.unusedVariables false      -- a walk need not use every 'w<i>' (that an integer argument fits its kind)

theorem own : ownKnob Try.prog.godebug = none := by kernel_rfl

open Bytes NmMath
theorem nm_err_ne {l : List UInt8} {E K p b : Nat} {next : Option Nat} {o : List UInt8} : K ≠ 0 → ∀ {x : Nat}, nm l E K p b next o = .error x → x ≠ 0 := by
  fun_induction nm l E K p b next o with
  | case1 E K p b next o k hr =>
    intro hK x e
    injection e with e
    have := run_err hr
    omega
  | case2 => intro hK x e; cases e
  | case3 E K p b next o o1 q hr h0 h1 h2 ih => intro hK x e; exact ih (by decide) e
  | case4 => intro hK x e; injection e with e; omega
  | case5 => intro hK x e; injection e with e; omega
theorem nmAt_err {l : List UInt8} {p : Int} {x : Nat} (h : nmAt l p = .error x) : x ≠ 0 := by
  unfold nmAt at h
  split at h
  · injection h with h; omega
  · exact nm_err_ne (by decide) h

theorem walk (a0 : ByteArray) (a1 : Int) (w0 : a0.size ≤ maxLen) (w1 : (Lit.int .i64 a1).wf = true) (w : World) :
    Calls Try.prog 3 #[.string a0, .int .i64 a1] w fun e w' => e = .returned (.bool true) ∧ Below w.heap.size w w' := by
  by_cases h1 : (70000 : Int) < a0.size
  · go_enter Try.func3, Try.ntmps3
    go_wp2_with fail
    refine (awake_any _).mono ?_
    rintro e w1 ⟨rfl, hB⟩
    go_wp2_with fail
    go_ret
    exact ⟨rfl, hB⟩
  have hs : a0.size ≤ 1000000 := by omega
  have hb := bounds_i64 w1
  obtain ⟨R, hR⟩ : ∃ R, nmAt a0.data.toList a1 = R := ⟨_, rfl⟩
  have HN := Lib.hid (fun w => name_any a0 a1 R w hs (by omega) (by omega) hR)
  have HF := Lib.hid (fun w => refNm_any a0 a1 R w hs (by omega) (by omega) hR)
  cases R with
  | error x =>
    have hx : ((x : Int) != 0) = true := bne_iff_ne.2 (by have := nmAt_err hR; omega)
    clear hR
    go_enter Try.func3, Try.ntmps3
    go_wp2_with fail
    refine (awake_any _).mono ?_
    rintro e w1 ⟨rfl, n1⟩
    go_wp2_with fail
    refine (HN.out _).mono ?_
    rintro e w2 ⟨rfl, n2⟩
    go_wp2_with fail
    refine (HF.out _).mono ?_
    rintro e w3 ⟨rfl, rfl⟩
    have n3 := Lib.hid (n1.trans (n2.mono n1.size))
    clear n1 n2
    go_wp2_with fail
    go_ret
    exact ⟨by simp, n3.out⟩
  | ok on =>
    obtain ⟨o, n⟩ := on
    clear hR
    have hy : (mk o).toList = (mk o).toList := rfl
    generalize mk o = y at *
    go_enter Try.func3, Try.ntmps3
    go_wp2_with fail
    refine (awake_any _).mono ?_
    rintro e w1 ⟨rfl, n1⟩
    go_wp2_with fail
    refine (HN.out _).mono ?_
    rintro e w2 ⟨rfl, n2⟩
    go_wp2_with fail
    refine (HF.out _).mono ?_
    rintro e w3 ⟨rfl, rfl⟩
    have n3 := Lib.hid (n1.trans (n2.mono n1.size))
    clear n1 n2
    go_wp2_with fail
    go_ret
    exact ⟨by simp, n3.out⟩

set_option maxRecDepth 100000 in
theorem lifted (os : Os) (started : os.Started) (H : Type) (enc : TypeId × Value → H) :
    ReturnsInHanded {} Try.checked os 3 .any (Rows.readNamesSpec.pre6 enc Try.prog Try.f3 Rows.readNamesRow.domain false) (Rows.readNamesSpec.post enc Try.prog Try.f3 false true false false) := by
  refine returnsInHanded_of_change (C := Try.checked) own started (by kernel_rfl) Try.func3
    (ChangeSpec.witness6 (enc := enc) (C := Try.checked) false ⟨#[], #[.string ByteArray.empty, .int .i64 0], []⟩ 8 (by kernel_rfl) (by kernel_rfl) (by kernel_rfl) (by kernel_rfl)) ?_
  intro W base args ds gs before hval0 hW hcnd _
  have hval : ∀ (j : Nat) t v, Try.f3.params[j]? = some t → args[j]? = some v → Value.okWide Try.prog W .any base t v := hval0
  have hW' := hW
  obtain ⟨p, q, hA0, hV, rfl, hfz, hnd⟩ := hW
  have hA : DataW.TrodAll enc Try.prog W 0 (fun _ => true) true Try.f3.params.toList args.toList ds p := hA0
  rw [Try.params3] at hA hval
  obtain ⟨v0, vs0, d0, ds0, p0, q0, hargs, rfl, rfl, h0, r0⟩ := trodAll_cons hA
  obtain ⟨v1, vs1, d1, ds1, p1, q1, rfl, rfl, rfl, h1, r1⟩ := trodAll_cons r0
  obtain ⟨rfl, rfl, rfl⟩ := trodAll_nil r1
  obtain rfl : args = #[v0, v1] := by cases args; simp_all
  obtain ⟨rfl, rfl⟩ := trodVars_none hV
  obtain ⟨a0, rfl, rfl, rfl, w0⟩ := open_string Try.underlying9 (hval 0 9 v0 rfl rfl) h0
  obtain ⟨a1, rfl, rfl, rfl, w1⟩ := open_int Try.underlying3 (hval 1 3 v1 rfl rfl) h1
  clear hA0 hval0
  simp only [List.append_nil] at hW'
  refine (walk a0 a1 w0 w1 W).mono fun e W' ⟨he, hg⟩ => ?_
  subst he
  exact ⟨_, rfl, _, _, _, [], [], [], hW', (trodAll_cons_mk (shut_bool Try.underlying4 _) trodAll_mk0), (trodAll_cons_mk (shut_string Try.underlying9 w0) (trodAll_cons_mk (shut_int Try.underlying3 w1) trodAll_mk0)), rfl, hg.frame _, fun h => by cases h⟩

theorem over : Rows.readNamesRow.holds Try.pinned (OpenSpec.ofChange Rows.readNamesSpec) :=
  OpenClaim.holds_of_wide 3 Try.f3 rfl rfl rfl rfl rfl rfl rfl ⟨rfl, rfl, rfl, rfl, rfl⟩ rfl rfl rfl rfl rfl (by kernel_rfl) Try.func3 (by kernel_rfl)
    (of_decide_eq_true (by kernel_rfl)) (by unfold Func.isWrapper; first | (rw [if_pos (by decide +kernel)]; kernel_rfl) | (rw [if_neg (by decide +kernel)]; exact ⟨rfl, rfl⟩))
    (fun os started H enc _ => lifted os started H enc)

theorem proved : Rows.ReadNamesSaid :=
  over
#print axioms proved
end Go.Proofs.Ytngbifdenbfepaa.readNames
