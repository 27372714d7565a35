/- Proves TextJoins: two texts, one behind the other, are a token just if both are, or one is and the other is empty; a value with a sign at both ends stays one. No condition. -/
import Derived.Test.YtpbbeeggblmneaaDoorRows
import Derived.WalkKit
import Derived.ProofKit
import Derived.OpenShut
import Derived.ShutString
import Derived.Test.YtpbbeeggblmneaaDoorCards
import Derived.Test.YtpbbeeggblmneaaDoorTie
import Derived.Lay
import Derived.SevenTiedAt
import Derived.Below
import Derived.Test.YtpbbeeggblmneaaDoorTextFrame
import Derived.Test.YtpbbeeggblmneaaDoorTextAwake
import Derived.Deep.CutBlock
import Derived.Deep.DeepCutAuto
namespace Go.Proofs.YtpbbeeggblmneaaDoor.textJoins
open Go.ChangeShapes Go.WideShapes Go.ChangeAt Go.RowKit
open Go.ChangeMaps (open_string shut_string)
set_option linter.unusedVariables false      -- a walk need not use every 'w<i>' (that an integer argument fits its kind)


open TextMath
theorem ends_wrap (x y : UInt8) (m : List UInt8) : endsB ((x :: m) ++ [y]) = (!blankB x && !blankB y) := by
  unfold endsB
  rw [List.getLast?_concat]
  rfl
theorem value_wrap {s : ByteArray} (h : valueB s.data.toList = true) : valueB ((⟨#[120]⟩ : ByteArray) ++ s ++ ⟨#[121]⟩).data.toList = true ∧ valueB ((⟨#[120, 32]⟩ : ByteArray) ++ s ++ ⟨#[32, 121]⟩).data.toList = true := by
  have ha : s.data.toList.all valB = true := by
    unfold valueB at h
    simp only [Bool.and_eq_true] at h
    exact h.1
  have e1 : (⟨#[120]⟩ : ByteArray).data.toList = [120] := rfl
  have e2 : (⟨#[121]⟩ : ByteArray).data.toList = [121] := rfl
  have e3 : (⟨#[120, 32]⟩ : ByteArray).data.toList = [120, 32] := rfl
  have e4 : (⟨#[32, 121]⟩ : ByteArray).data.toList = [32, 121] := rfl
  have v1 : valB 120 = true := by decide
  have v2 : valB 121 = true := by decide
  have v3 : valB 32 = true := by decide
  have b1 : blankB 120 = false := by decide
  have b2 : blankB 121 = false := by decide
  refine ⟨?_, ?_⟩
  · rw [cat_list, cat_list, e1, e2]
    unfold valueB
    rw [show [120] ++ s.data.toList ++ [121] = (120 :: s.data.toList) ++ [121] from rfl, ends_wrap, b1, b2]
    simp [ha, v1, v2]
  · rw [cat_list, cat_list, e3, e4]
    unfold valueB
    rw [show [120, 32] ++ s.data.toList ++ [32, 121] = (120 :: (32 :: (s.data.toList ++ [32]))) ++ [121] from by simp, ends_wrap, b1, b2]
    simp [ha, v1, v2, v3]

theorem walk (a0 : ByteArray) (a1 : ByteArray) (w0 : a0.size ≤ maxLen) (w1 : a1.size ≤ maxLen) (w : World) (hS : Std w.heap.size w) :
    Calls Tryd.prog 5 #[.string a0, .string a1] w fun e w' => e = .returned (.bool true) ∧ Below w.heap.size w w' := by
  have HS := Lib.hid hS; clear hS
  have n0 : Below w.heap.size w w := Below.refl _ _
  generalize hg : w.heap.size = g at *
  have hgw : g ≤ w.heap.size := by omega
  have G := Lib.hid hg; clear hg
  by_cases h1 : (20000 : Int) < a0.size
  · go_enter Tryd.func5, Tryd.ntmps5
    go_wp2_with fail
    refine (awake_any g _ HS.out hgw).mono ?_
    rintro e w1 ⟨rfl, hB⟩
    go_wp2_with fail
    go_ret
    exact ⟨rfl, hB⟩
  by_cases h2 : (20000 : Int) < a1.size
  · go_enter Tryd.func5, Tryd.ntmps5
    go_wp2_with fail
    refine (awake_any g _ HS.out hgw).mono ?_
    rintro e w1 ⟨rfl, hB⟩
    go_wp2_with fail
    go_ret
    exact ⟨rfl, hB⟩
  have hs : a0.size ≤ 20000 := by omega
  have ht : a1.size ≤ 20000 := by omega
  clear w0 w1
  have sc : (a0 ++ a1).size ≤ 40000 := by rw [ByteArray.size_append]; omega
  have s1 : ((⟨#[120]⟩ : ByteArray) ++ a0 ++ ⟨#[121]⟩).size ≤ 40000 := by rw [ByteArray.size_append, ByteArray.size_append]; show 1 + a0.size + 1 ≤ _; omega
  have s2 : ((⟨#[120, 32]⟩ : ByteArray) ++ a0 ++ ⟨#[32, 121]⟩).size ≤ 40000 := by rw [ByteArray.size_append, ByteArray.size_append]; show 2 + a0.size + 2 ≤ _; omega
  have s3 : ((⟨#[120]⟩ : ByteArray) ++ a0).size ≤ 40000 := by rw [ByteArray.size_append]; show 1 + a0.size ≤ _; omega
  have s4 : ((⟨#[120, 32]⟩ : ByteArray) ++ a0).size ≤ 40000 := by rw [ByteArray.size_append]; show 2 + a0.size ≤ _; omega
  have hp := tokB_cat a0.data.toList a1.data.toList
  rw [← cat_list, ← Lib.toList_data a0, ← Lib.toList_data a1] at hp
  obtain ⟨p, hp1⟩ : ∃ p, tokB (a0 ++ a1).data.toList = p := ⟨_, rfl⟩
  obtain ⟨pa, hpa⟩ : ∃ p, tokB a0.data.toList = p := ⟨_, rfl⟩
  obtain ⟨pb, hpb⟩ : ∃ p, tokB a1.data.toList = p := ⟨_, rfl⟩
  obtain ⟨v, hv⟩ : ∃ v, valueB a0.data.toList = v := ⟨_, rfl⟩
  obtain ⟨ea, hea⟩ : ∃ p, a0.toList.isEmpty = p := ⟨_, rfl⟩
  obtain ⟨eb, heb⟩ : ∃ p, a1.toList.isEmpty = p := ⟨_, rfl⟩
  rw [hp1, Lib.toList_data a0, Lib.toList_data a1, hpa, hpb, ← Lib.toList_data a0, ← Lib.toList_data a1, hea, heb] at hp
  have c0 : ∀ w, Calls Tryd.prog 12 #[.string (a0 ++ a1)] w fun e w' => e = .returned (.bool p) ∧ w = w' := fun w => by have := token_any (a0 ++ a1) w (by omega); rwa [hp1] at this
  have c1 : ∀ w, Calls Tryd.prog 12 #[.string a0] w fun e w' => e = .returned (.bool pa) ∧ w = w' := fun w => by have := token_any a0 w (by omega); rwa [hpa] at this
  have c2 : ∀ w, Calls Tryd.prog 12 #[.string a1] w fun e w' => e = .returned (.bool pb) ∧ w = w' := fun w => by have := token_any a1 w (by omega); rwa [hpb] at this
  have c3 : ∀ w, Calls Tryd.prog 14 #[.string a0] w fun e w' => e = .returned (.bool v) ∧ Below w.heap.size w w' := fun w => by have := value_any a0 w (by omega); rwa [hv] at this
  have c4 : v = true → ∀ w, Calls Tryd.prog 14 #[.string ((⟨#[120]⟩ : ByteArray) ++ a0 ++ ⟨#[121]⟩)] w fun e w' => e = .returned (.bool true) ∧ Below w.heap.size w w' := fun h w => by have := value_any _ w (Nat.le_trans s1 (by decide)); rwa [(value_wrap (hv.trans h)).1] at this
  have c5 : v = true → ∀ w, Calls Tryd.prog 14 #[.string ((⟨#[120, 32]⟩ : ByteArray) ++ a0 ++ ⟨#[32, 121]⟩)] w fun e w' => e = .returned (.bool true) ∧ Below w.heap.size w w' := fun h w => by have := value_any _ w (Nat.le_trans s2 (by decide)); rwa [(value_wrap (hv.trans h)).2] at this
  have HP := Lib.hid hp; clear hp hp1 hpa hpb hv s1 s2
  have C0 := Lib.hid c0; clear c0
  have C1 := Lib.hid c1; clear c1
  have C2 := Lib.hid c2; clear c2
  have C3 := Lib.hid c3; clear c3
  have C4 := Lib.hid c4; clear c4
  have C5 := Lib.hid c5; clear c5
  have HEA := Lib.hid hea; clear hea
  have HEB := Lib.hid heb; clear heb
  go_enter Tryd.func5, Tryd.ntmps5
  go_wp2_with fail
  refine (awake_any g _ HS.out hgw).mono ?_
  rintro e w1 ⟨rfl, n1⟩
  have z1 := n1.size
  clear n0
  go_upto_region 5 with fail
  go_cut [41] from 15 to 41 (fun c wx => c = .bool false ∧ w1 = wx)
  case first =>
    go_wp2_with fail
    refine (C0.out _).mono ?_
    rintro e w' ⟨rfl, rfl⟩
    go_wp2_with fail
    refine (C1.out _).mono ?_
    rintro e w' ⟨rfl, rfl⟩
    cases pa with
    | true =>
      go_wp2_with fail
      refine (C2.out _).mono ?_
      rintro e w' ⟨rfl, rfl⟩
      cases pb with
      | true =>
        obtain rfl : p = true := by rw [HP.out]; simp
        go_wp2_with fail
        go_meet
        exact ⟨rfl, rfl⟩
      | false =>
        go_wp2_with fail
        refine (C1.out _).mono ?_
        rintro e w' ⟨rfl, rfl⟩
        have heb := HEB.out
        cases eb with
        | true =>
          obtain rfl : p = true := by rw [HP.out]; simp
          go_wp2_with fail
          go_meet
          exact ⟨rfl, rfl⟩
        | false =>
          have hea := HEA.out
          obtain rfl : p = false := by rw [HP.out]; simp
          cases ea with
          | true =>
            go_wp2_with fail
            refine (C2.out _).mono ?_
            rintro e w' ⟨rfl, rfl⟩
            go_wp2_with fail
            go_meet
            exact ⟨rfl, rfl⟩
          | false =>
            go_wp2_with fail
            go_meet
            exact ⟨rfl, rfl⟩
    | false =>
      go_wp2_with fail
      refine (C1.out _).mono ?_
      rintro e w' ⟨rfl, rfl⟩
      have hea := HEA.out
      cases ea with
      | true =>
        obtain rfl : p = pb := by rw [HP.out]; simp
        go_wp2_with fail
        refine (C2.out _).mono ?_
        rintro e w' ⟨rfl, rfl⟩
        go_wp2_with fail
        go_meet
        exact ⟨rfl, rfl⟩
      | false =>
        obtain rfl : p = false := by rw [HP.out]; simp
        go_wp2_with fail
        go_meet
        exact ⟨rfl, rfl⟩
  case rest =>
    obtain ⟨rfl, rfl⟩ := hcut
    go_wp2_with fail
    refine (C3.out _).mono ?_
    rintro e w2 ⟨rfl, hB⟩
    have n2 := n1.trans (hB.mono (by omega))
    have z2 := n2.size
    clear hB n1 z1
    cases v with
    | false =>
      go_wp2_with fail
      go_ret
      exact ⟨rfl, n2⟩
    | true =>
      go_wp2_with fail
      refine (C4.out trivial _).mono ?_
      rintro e w3 ⟨rfl, hB⟩
      have n3 := n2.trans (hB.mono (by omega))
      have z3 := n3.size
      clear hB n2 z2
      go_wp2_with fail
      refine (C5.out trivial _).mono ?_
      rintro e w4 ⟨rfl, hB⟩
      have n4 := n3.trans (hB.mono (by omega))
      clear hB n3 z3
      go_wp2_with fail
      go_ret
      exact ⟨rfl, n4⟩

set_option maxRecDepth 100000 in
theorem lifted (os : Os) (started : os.Started) (H : Type) (enc : TypeId × Value → H) :
    ReturnsInHanded {} Tryd.checked os 5 .any (fun w args => (Rows.textJoinsSpec.pre enc Tryd.prog Tryd.f5 [] false w args ∧ laidMetH Tryd.prog Rows.textJoinsRow.laid w) ∧ sizedMet enc Tryd.prog Tryd.f5 (OpenSpec.ofChange Rows.textJoinsSpec) false w args) (Rows.textJoinsSpec.post enc Tryd.prog Tryd.f5 false true false false) := by
  refine wrap_laid (C := Tryd.checked) (X := fun w => laidMetH Tryd.prog Rows.textJoinsRow.laid w) (fun _ _ hh h => h.of_heap hh) own started (by kernel_rfl) Tryd.func5
    (ChangeSpec.witness_shaped (enc := enc) (C := Tryd.checked) (os := os) (X := fun w _ => laidMetH Tryd.prog Rows.textJoinsRow.laid w) false (World.laidAll Tryd.prog os Rows.textJoinsRow.laid) #[.string ByteArray.empty, .string ByteArray.empty] 8 (World.laidAll_os _ _ _)
      (World.shaped_of_ZipB (by kernel_rfl) (by kernel_rfl)) (by kernel_rfl) (by kernel_rfl) (by kernel_rfl)
      (by rw [MakeChecks.laidMetH_plain _ _ _ (by kernel_rfl)]; exact laidMet_laidAll _ (by kernel_rfl) (by kernel_rfl))) ?_
  intro W base args ds gs before hval0 hW hsh hL
  have hstd := std_of hsh hL
  have hval : ∀ (j : Nat) t v, Tryd.f5.params[j]? = some t → args[j]? = some v → Value.okWide Tryd.prog W .any base t v := hval0
  have hW' := hW
  obtain ⟨p, q, hA0, hV, rfl, hfz, hnd⟩ := hW
  have hA : DataW.TrodAll enc Tryd.prog W 0 (fun _ => true) true Tryd.f5.params.toList args.toList ds p := hA0
  rw [Tryd.params5] at hA hval
  obtain ⟨v0, vs0, d0, ds0, p0, q0, hargs, rfl, rfl, h0, r0⟩ := trodAll_cons hA
  obtain ⟨v1, vs1, d1, ds1, p1, q1, rfl, rfl, rfl, h1, r1⟩ := trodAll_cons r0
  obtain ⟨rfl, rfl, rfl⟩ := trodAll_nil r1
  obtain rfl : args = #[v0, v1] := by cases args; simp_all
  obtain ⟨rfl, rfl⟩ := trodVars_none hV
  obtain ⟨a0, rfl, rfl, rfl, w0⟩ := open_string Tryd.underlying9 (hval 0 9 v0 rfl rfl) h0
  obtain ⟨a1, rfl, rfl, rfl, w1⟩ := open_string Tryd.underlying9 (hval 1 9 v1 rfl rfl) h1
  clear hA0 hval0
  simp only [List.append_nil] at hW'
  refine (walk a0 a1 w0 w1 W hstd).mono fun e W' ⟨he, hg⟩ => ?_
  subst he
  exact ⟨_, rfl, _, _, _, [], [], [], hW', (trodAll_cons_mk (shut_bool Tryd.underlying4 _) trodAll_mk0), (trodAll_cons_mk (shut_string Tryd.underlying9 w0) (trodAll_cons_mk (shut_string Tryd.underlying9 w1) trodAll_mk0)), rfl, hg.frame _, fun h => by cases h⟩

theorem over : Rows.textJoinsRow.holds Tryd.pinned (OpenSpec.ofChange Rows.textJoinsSpec) :=
  OpenClaim.holds_of_wide 5 Tryd.f5 rfl rfl rfl rfl rfl rfl rfl ⟨rfl, rfl, rfl, rfl, rfl⟩ rfl rfl rfl rfl rfl (by kernel_rfl) Tryd.func5 (by kernel_rfl)
    (of_decide_eq_true (by kernel_rfl)) (by unfold Func.isWrapper; first | (rw [if_pos (by decide +kernel)]; kernel_rfl) | (rw [if_neg (by decide +kernel)]; exact ⟨rfl, rfl⟩))
    (fun os started H enc _ => lifted os started H enc)

theorem proved : Rows.TextJoinsCardSaid :=
  Claim7.holds_tied_plain_at .later [] [.data, .data, .data, .data, .pinned] true (true, "9807dafe3f6d15e133c68866b88ae7e123aecc51ae5408fe4f2340aba51fdb13") false
    over (fun _ h => by cases h) (by kernel_rfl) (fun _ h => by cases h) textJoins_row_tie rfl ⟨rfl, rfl⟩ (by kernel_rfl) rfl
    (fun f fn hf hfn => by
      obtain rfl : f = 5 := Option.some.inj ((show Tryd.prog.funcNamed "nuncio/nunciolaw02.TextJoins" = some 5 by kernel_rfl).symm.trans hf) |>.symm
      obtain rfl : fn = Tryd.f5 := (Option.some.inj (Tryd.func5.symm.trans hfn)).symm
      exact ⟨by kernel_rfl, fun j t ht => by
        rw [Tryd.params5] at ht
        have hm : t ∈ [9, 9] := by simpa using Array.mem_of_getElem? ht
        have hall : ([9, 9].all fun u => !Tryd.prog.wantsStandIn u) = true := by kernel_rfl
        exact (show Tryd.prog.wantsStandIn t = false by simpa using List.all_eq_true.1 hall t hm)⟩)
    (by kernel_rfl)
#print axioms proved
end Go.Proofs.YtpbbeeggblmneaaDoor.textJoins
