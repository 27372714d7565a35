/- Proves NumStays: num's sums and products don't hang on the order, rise with their parts, and a sum of three is one sum. No condition. -/
import Derived.Test.YtlhodiblkinglaaRows
import Derived.WalkKit
import Derived.ProofKit
import Derived.OpenShut
import Derived.ShutString
import Derived.Test.YtlhodiblkinglaaNumAwake
import Derived.Below
namespace Go.Proofs.Ytlhodiblkinglaa.numStays
open Go.ChangeShapes Go.WideShapes Go.ChangeAt Go.RowKit
open Go.ChangeMaps (open_string shut_string)
set_option linter.unusedVariables false      -- a walk need not use every 'w<i>' (that an integer argument fits its kind)

theorem own : ownKnob Try.prog.godebug = none := by kernel_rfl

theorem add64_eq (a b r : Int) (w : World) (ha0 : 0 ≤ a) (ha : a ≤ 18446744073709551615) (hb0 : 0 ≤ b) (hb : b ≤ 18446744073709551615) (h : Hid (NumMath.sat64 (a + b) = r)) :
    Calls Try.prog 13 #[.int .u64 a, .int .u64 b] w fun e w' => e = .returned (.int .u64 r) ∧ w = w' := by
  have := add64_any a b w ha0 ha hb0 hb
  rwa [h.out] at this
theorem mul64_eq (a b r : Int) (w : World) (ha0 : 0 ≤ a) (ha : a ≤ 18446744073709551615) (hb0 : 0 ≤ b) (hb : b ≤ 18446744073709551615) (h : Hid (NumMath.sat64 (a * b) = r)) :
    Calls Try.prog 15 #[.int .u64 a, .int .u64 b] w fun e w' => e = .returned (.int .u64 r) ∧ w = w' := by
  have := mul64_any a b w ha0 ha hb0 hb
  rwa [h.out] at this
theorem add32_eq (a b r : Int) (w : World) (ha0 : 0 ≤ a) (ha : a ≤ 4294967295) (hb0 : 0 ≤ b) (hb : b ≤ 4294967295) (h : Hid (NumMath.sat32 (a + b) = r)) :
    Calls Try.prog 11 #[.int .u32 a, .int .u32 b] w fun e w' => e = .returned (.int .u32 r) ∧ w = w' := by
  have := add32_any a b w ha0 ha hb0 hb
  rwa [h.out] at this
/-- All that the law says of the numbers: the results under names. -/
theorem facts (a b c : Int) (ha : 0 ≤ a) (ha1 : a ≤ 18446744073709551615) (hb : 0 ≤ b) (hc : 0 ≤ c) : ∃ p q s m pc mc t : Int,
    Hid (NumMath.sat64 (a + b) = p) ∧ Hid (NumMath.sat64 (b + a) = p) ∧ Hid (NumMath.sat64 (b + c) = q) ∧ Hid (NumMath.sat64 (p + c) = s) ∧ Hid (NumMath.sat64 (a + q) = s) ∧
    Hid (NumMath.sat64 (a * b) = m) ∧ Hid (NumMath.sat64 (b * a) = m) ∧ Hid (NumMath.sat64 (a + c) = pc) ∧ Hid (NumMath.sat64 (a * c) = mc) ∧
    Hid (NumMath.sat32 (a % 4294967296 + b % 4294967296) = t) ∧ Hid (NumMath.sat64 (a + 0) = a) ∧ Hid (NumMath.sat64 (a * 1) = a) ∧ Hid (NumMath.sat64 (a * 0) = 0) ∧
    (0 ≤ p ∧ p ≤ 18446744073709551615) ∧ (0 ≤ q ∧ q ≤ 18446744073709551615) ∧ a ≤ p ∧ a % 4294967296 ≤ t ∧ (b ≤ c → p ≤ pc ∧ m ≤ mc) := by
  refine ⟨_, _, _, _, _, _, _, rfl, ?_, rfl, rfl, ?_, rfl, ?_, rfl, rfl, rfl, ?_, ?_, ?_, NumMath.sat64_bd (by omega), NumMath.sat64_bd (by omega), ?_, ?_, fun h => ⟨NumMath.sat64_mono (by omega), NumMath.sat64_mono (Int.mul_le_mul_of_nonneg_left h ha)⟩⟩
  · show _ = _; rw [Int.add_comm]
  · show _ = _
    rw [Int.add_comm a, NumMath.sat64_add _ _ ha, NumMath.sat64_add _ _ hc]
    congr 1; omega
  · show _ = _; rw [Int.mul_comm]
  · show _ = _; rw [Int.add_zero, NumMath.sat64_of_le ha1]
  · show _ = _; rw [Int.mul_one, NumMath.sat64_of_le ha1]
  · show _ = _; rw [Int.mul_zero]; rfl
  · have := NumMath.sat64_mono (show a ≤ a + b by omega)
    rwa [NumMath.sat64_of_le ha1] at this
  · unfold NumMath.sat32; split <;> omega

theorem walk (a0 : Int) (a1 : Int) (a2 : Int) (w0 : (Lit.int .u64 a0).wf = true) (w1 : (Lit.int .u64 a1).wf = true) (w2 : (Lit.int .u64 a2).wf = true) (w : World) :
    Calls Try.prog 5 #[.int .u64 a0, .int .u64 a1, .int .u64 a2] w fun e w' => e = .returned (.bool true) ∧ Below w.heap.size w w' := by
  have b0 := bounds_u64 w0
  have b1 := bounds_u64 w1
  have b2 := bounds_u64 w2
  obtain ⟨p, q, s, m, pc, mc, t, hp, hp', hq, hs, hs', hm, hm', hpc, hmc, ht, hz, ho, hn, bp, bq, hap, hat, hmono⟩ := facts a0 a1 a2 b0.1 b0.2 b1.1 b2.1
  obtain ⟨a0l, a0h⟩ := b0
  obtain ⟨a1l, a1h⟩ := b1
  obtain ⟨a2l, a2h⟩ := b2
  obtain ⟨bpl, bph⟩ := bp
  obtain ⟨bql, bqh⟩ := bq
  have H32 := Lib.hid hat
  clear hat
  by_cases hbc : a1 ≤ a2
  · obtain ⟨hm1, hm2⟩ := hmono hbc
    clear hmono
    go_enter Try.func5, Try.ntmps5
    go_wp2_with fail
    refine (awake_any _).mono ?_
    rintro e w1 ⟨rfl, hB⟩
    go_wp2_with fail
    refine (add64_eq _ _ p _ a0l a0h a1l a1h hp).mono ?_
    rintro e w' ⟨rfl, rfl⟩
    go_wp2_with fail
    refine (add64_eq _ _ p _ a1l a1h a0l a0h hp').mono ?_
    rintro e w' ⟨rfl, rfl⟩
    go_wp2_with fail
    refine (mul64_eq _ _ m _ a0l a0h a1l a1h hm).mono ?_
    rintro e w' ⟨rfl, rfl⟩
    go_wp2_with fail
    refine (mul64_eq _ _ m _ a1l a1h a0l a0h hm').mono ?_
    rintro e w' ⟨rfl, rfl⟩
    go_wp2_with fail
    refine (add64_eq _ _ p _ a0l a0h a1l a1h hp).mono ?_
    rintro e w' ⟨rfl, rfl⟩
    go_wp2_with fail
    refine (add64_eq _ _ s _ bpl bph a2l a2h hs).mono ?_
    rintro e w' ⟨rfl, rfl⟩
    go_wp2_with fail
    refine (add64_eq _ _ q _ a1l a1h a2l a2h hq).mono ?_
    rintro e w' ⟨rfl, rfl⟩
    go_wp2_with fail
    refine (add64_eq _ _ s _ a0l a0h bql bqh hs').mono ?_
    rintro e w' ⟨rfl, rfl⟩
    go_wp2_with fail
    refine (add64_eq _ _ p _ a0l a0h a1l a1h hp).mono ?_
    rintro e w' ⟨rfl, rfl⟩
    go_wp2_with fail
    refine (add64_eq _ _ pc _ a0l a0h a2l a2h hpc).mono ?_
    rintro e w' ⟨rfl, rfl⟩
    go_wp2_with fail
    refine (mul64_eq _ _ m _ a0l a0h a1l a1h hm).mono ?_
    rintro e w' ⟨rfl, rfl⟩
    go_wp2_with fail
    refine (mul64_eq _ _ mc _ a0l a0h a2l a2h hmc).mono ?_
    rintro e w' ⟨rfl, rfl⟩
    go_wp2_with fail
    refine (add64_eq _ _ p _ a0l a0h a1l a1h hp).mono ?_
    rintro e w' ⟨rfl, rfl⟩
    go_wp2_with fail
    refine (add32_eq _ _ t _ (by omega) (by omega) (by omega) (by omega) ht).mono ?_
    rintro e w' ⟨rfl, rfl⟩
    have h32 := H32.out
    go_wp2_with fail
    refine (add64_eq _ _ a0 _ a0l a0h (by decide) (by decide) hz).mono ?_
    rintro e w' ⟨rfl, rfl⟩
    go_wp2_with fail
    refine (mul64_eq _ _ a0 _ a0l a0h (by decide) (by decide) ho).mono ?_
    rintro e w' ⟨rfl, rfl⟩
    go_wp2_with fail
    refine (mul64_eq _ _ 0 _ a0l a0h (by decide) (by decide) hn).mono ?_
    rintro e w' ⟨rfl, rfl⟩
    go_wp2_with fail
    go_ret
    exact ⟨rfl, hB⟩
  · clear hmono
    go_enter Try.func5, Try.ntmps5
    go_wp2_with fail
    refine (awake_any _).mono ?_
    rintro e w1 ⟨rfl, hB⟩
    go_wp2_with fail
    refine (add64_eq _ _ p _ a0l a0h a1l a1h hp).mono ?_
    rintro e w' ⟨rfl, rfl⟩
    go_wp2_with fail
    refine (add64_eq _ _ p _ a1l a1h a0l a0h hp').mono ?_
    rintro e w' ⟨rfl, rfl⟩
    go_wp2_with fail
    refine (mul64_eq _ _ m _ a0l a0h a1l a1h hm).mono ?_
    rintro e w' ⟨rfl, rfl⟩
    go_wp2_with fail
    refine (mul64_eq _ _ m _ a1l a1h a0l a0h hm').mono ?_
    rintro e w' ⟨rfl, rfl⟩
    go_wp2_with fail
    refine (add64_eq _ _ p _ a0l a0h a1l a1h hp).mono ?_
    rintro e w' ⟨rfl, rfl⟩
    go_wp2_with fail
    refine (add64_eq _ _ s _ bpl bph a2l a2h hs).mono ?_
    rintro e w' ⟨rfl, rfl⟩
    go_wp2_with fail
    refine (add64_eq _ _ q _ a1l a1h a2l a2h hq).mono ?_
    rintro e w' ⟨rfl, rfl⟩
    go_wp2_with fail
    refine (add64_eq _ _ s _ a0l a0h bql bqh hs').mono ?_
    rintro e w' ⟨rfl, rfl⟩
    go_wp2_with fail
    refine (add64_eq _ _ p _ a0l a0h a1l a1h hp).mono ?_
    rintro e w' ⟨rfl, rfl⟩
    go_wp2_with fail
    refine (add32_eq _ _ t _ (by omega) (by omega) (by omega) (by omega) ht).mono ?_
    rintro e w' ⟨rfl, rfl⟩
    have h32 := H32.out
    go_wp2_with fail
    refine (add64_eq _ _ a0 _ a0l a0h (by decide) (by decide) hz).mono ?_
    rintro e w' ⟨rfl, rfl⟩
    go_wp2_with fail
    refine (mul64_eq _ _ a0 _ a0l a0h (by decide) (by decide) ho).mono ?_
    rintro e w' ⟨rfl, rfl⟩
    go_wp2_with fail
    refine (mul64_eq _ _ 0 _ a0l a0h (by decide) (by decide) hn).mono ?_
    rintro e w' ⟨rfl, rfl⟩
    go_wp2_with fail
    go_ret
    exact ⟨rfl, hB⟩

set_option maxRecDepth 100000 in
theorem lifted (os : Os) (started : os.Started) (H : Type) (enc : TypeId × Value → H) :
    ReturnsInHanded {} Try.checked os 5 .any (Rows.numStaysSpec.pre6 enc Try.prog Try.f5 Rows.numStaysRow.domain false) (Rows.numStaysSpec.post enc Try.prog Try.f5 false true false false) := by
  refine returnsInHanded_of_change (C := Try.checked) own started (by kernel_rfl) Try.func5
    (ChangeSpec.witness6 (enc := enc) (C := Try.checked) false ⟨#[], #[.int .u64 0, .int .u64 0, .int .u64 0], []⟩ 8 (by kernel_rfl) (by kernel_rfl) (by kernel_rfl) (by kernel_rfl)) ?_
  intro W base args ds gs before hval0 hW hcnd _
  have hval : ∀ (j : Nat) t v, Try.f5.params[j]? = some t → args[j]? = some v → Value.okWide Try.prog W .any base t v := hval0
  have hW' := hW
  obtain ⟨p, q, hA0, hV, rfl, hfz, hnd⟩ := hW
  have hA : DataW.TrodAll enc Try.prog W 0 (fun _ => true) true Try.f5.params.toList args.toList ds p := hA0
  rw [Try.params5] at hA hval
  obtain ⟨v0, vs0, d0, ds0, p0, q0, hargs, rfl, rfl, h0, r0⟩ := trodAll_cons hA
  obtain ⟨v1, vs1, d1, ds1, p1, q1, rfl, rfl, rfl, h1, r1⟩ := trodAll_cons r0
  obtain ⟨v2, vs2, d2, ds2, p2, q2, rfl, rfl, rfl, h2, r2⟩ := trodAll_cons r1
  obtain ⟨rfl, rfl, rfl⟩ := trodAll_nil r2
  obtain rfl : args = #[v0, v1, v2] := by cases args; simp_all
  obtain ⟨rfl, rfl⟩ := trodVars_none hV
  obtain ⟨a0, rfl, rfl, rfl, w0⟩ := open_int Try.underlying23 (hval 0 23 v0 rfl rfl) h0
  obtain ⟨a1, rfl, rfl, rfl, w1⟩ := open_int Try.underlying23 (hval 1 23 v1 rfl rfl) h1
  obtain ⟨a2, rfl, rfl, rfl, w2⟩ := open_int Try.underlying23 (hval 2 23 v2 rfl rfl) h2
  clear hA0 hval0
  simp only [List.append_nil] at hW'
  refine (walk a0 a1 a2 w0 w1 w2 W).mono fun e W' ⟨he, hg⟩ => ?_
  subst he
  exact ⟨_, rfl, _, _, _, [], [], [], hW', (trodAll_cons_mk (shut_bool Try.underlying4 _) trodAll_mk0), (trodAll_cons_mk (shut_int Try.underlying23 w0) (trodAll_cons_mk (shut_int Try.underlying23 w1) (trodAll_cons_mk (shut_int Try.underlying23 w2) trodAll_mk0))), rfl, hg.frame _, fun h => by cases h⟩

theorem over : Rows.numStaysRow.holds Try.pinned (OpenSpec.ofChange Rows.numStaysSpec) :=
  OpenClaim.holds_of_wide 5 Try.f5 rfl rfl rfl rfl rfl rfl rfl ⟨rfl, rfl, rfl, rfl, rfl⟩ rfl rfl rfl rfl rfl (by kernel_rfl) Try.func5 (by kernel_rfl)
    (of_decide_eq_true (by kernel_rfl)) (by unfold Func.isWrapper; first | (rw [if_pos (by decide +kernel)]; kernel_rfl) | (rw [if_neg (by decide +kernel)]; exact ⟨rfl, rfl⟩))
    (fun os started H enc _ => lifted os started H enc)

theorem proved : Rows.NumStaysSaid :=
  over
#print axioms proved
end Go.Proofs.Ytlhodiblkinglaa.numStays
