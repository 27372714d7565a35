/- Proves PrefixLeast: no other bytes than those that Put lays are as few and are got as the same number. No condition. -/
import Derived.Test.YtfkdkkbmcbmdjaaRows
import Derived.WalkKit
import Derived.ProofKit
import Derived.OpenShut
import Derived.ShutString
import Derived.Test.YtfkdkkbmcbmdjaaPfAwake
import Derived.Deep.QuietTactic
import Derived.BigQuiet
import Derived.Below
namespace Go.Proofs.Ytfkdkkbmcbmdjaa.prefixLeast
open Go.ChangeShapes Go.WideShapes Go.ChangeAt Go.RowKit
open Go.ChangeMaps (open_string shut_string)
set_option linter.unusedVariables false      -- a walk need not use every 'w<i>' (that an integer argument fits its kind)

theorem own : ownKnob Try.prog.godebug = none := by kernel_rfl

open Bytes Pf

theorem walk (a0 : ByteArray) (a1 : Int) (w0 : a0.size ≤ maxLen) (w1 : (Lit.int .i64 a1).wf = true) (w : World) :
    Calls Try.prog 6 #[.string a0, .int .i64 a1] w fun e w' => e = .returned (.bool true) ∧ Below w.heap.size w w' := by
  have b1 := bounds_i64 w1
  by_cases h1 : (20000 : Int) < a0.size
  · go_enter Try.func6, Try.ntmps6
    go_wp2_with fail
    refine (awake_any _).mono ?_
    rintro e w1 ⟨rfl, hB⟩
    go_wp2_with fail
    go_ret
    exact ⟨rfl, hB⟩
  obtain ⟨m, q, c, hz⟩ : ∃ m q c, getZ a0.data.toList 0 a1 = (m, q, c) := ⟨_, _, _, rfl⟩
  have hz2 : getM a0.data.toList 0 (fullN a1) = (m, q, c) := by
    rw [← hz]
    rfl
  have HZ := Lib.hid hz; clear hz
  have hl := get_least hz2
  by_cases hc : c = 0
  · subst hc
    obtain ⟨x, r, hx, l1, l2, l3⟩ := hl.2 rfl
    have hm := getM_le hz2
    have hm2 : m < 18446744073709551616 := by omega
    have hsz : a0.size = r.length + 1 := by rw [Lib.size_eq, hx]; rfl
    have h0 : 0 < a0.size := by omega
    have hx0 := getD_byte h0
    have hx2 : a0[0]'h0 = x := by
      rw [← hx0, hx]
      rfl
    have hxb := x.toNat_lt
    obtain ⟨d, hd⟩ : ∃ d, putL (fullN a1) x.toNat m = d := ⟨_, rfl⟩
    rw [hd] at l1 l3
    have HD := Lib.hid hd; clear hd
    obtain ⟨k, hk⟩ : ∃ k, d.length = k := ⟨_, rfl⟩
    rw [hk] at l1 l3
    have HK := Lib.hid hk; clear hk
    have hq : q ≤ a0.size := by rw [Lib.size_eq]; exact l2
    have L3 := Lib.hid l3
    clear hl hx0 hsz l2 l3 hz2 hm
    have hf0 : ((0 : Int) != 0) = false := by decide
    by_cases hkq : k < q
    · have hle : (k : Int) ≤ (q : Int) := by omega
      have hlt : (k : Int) < (q : Int) := by omega
      clear L3 hx
      go_enter Try.func6, Try.ntmps6
      go_wp2_with fail
      refine (awake_any _).mono ?_
      rintro e w1 ⟨rfl, hB⟩
      have s1 := hB.size
      go_wp2_with fail
      refine (get_is a0 0 a1 m q 0 _ (by omega) (by decide) (by decide) b1.1 b1.2 HZ).mono ?_
      rintro e w' ⟨rfl, rfl⟩
      go_wp2_with fail
      refine (put_nil d k x.toNat m a1 _ HK hxb hm2 b1.1 b1.2 HD).mono ?_
      rintro e w2 ⟨g, cap, rfl, _, hB2⟩
      have n2 := hB.trans (hB2.mono s1)
      clear hB hB2
      go_wp2_with fail
      go_quiet (fail)
      go_wp2_with fail
      go_ret
      exact ⟨rfl, below_drewN n2 nq⟩
    · obtain rfl : k = q := by omega
      have l3 := L3.out rfl
      have hle : (k : Int) ≤ (k : Int) := Int.le_refl _
      have hlt : decide ((k : Int) < (k : Int)) = false := decide_eq_false (by omega)
      have hex : a0.extract 0 k = mk d := by
        apply list_inj
        rw [extract_list, List.drop_zero, mk_list]
        exact l3.symm
      obtain ⟨t, ht⟩ : ∃ t, mk d = t := ⟨_, rfl⟩
      rw [ht] at hex
      have HT := Lib.hid ht
      have ft : (t.toList == t.toList) = true := beq_self_eq_true _
      clear L3 hx l3 ht
      go_enter Try.func6, Try.ntmps6
      go_wp2_with fail
      refine (awake_any _).mono ?_
      rintro e w1 ⟨rfl, hB⟩
      have s1 := hB.size
      go_wp2_with fail
      refine (get_is a0 0 a1 m k 0 _ (by omega) (by decide) (by decide) b1.1 b1.2 HZ).mono ?_
      rintro e w' ⟨rfl, rfl⟩
      go_wp2_with fail
      refine (put_nil d k x.toNat m a1 _ HK hxb hm2 b1.1 b1.2 HD).mono ?_
      rintro e w2 ⟨g, cap, rfl, hO, hB2⟩
      have n2 := hB.trans (hB2.mono s1)
      have hcv := fun n => convert_own (own_drewN hO n)
      rw [HT.out] at hcv
      clear hB hB2 hO
      go_wp2_with fail
      go_quiet (fail)
      go_wp2_with fail
      go_ret
      exact ⟨rfl, below_drewN n2 nq⟩
  · have ⟨z1, z2⟩ := hl.1 hc
    subst z1 z2
    have hf0 : ((c : Int) != 0) = true := bne_iff_ne.2 (by omega)
    clear hl hz2
    go_enter Try.func6, Try.ntmps6
    go_wp2_with fail
    refine (awake_any _).mono ?_
    rintro e w1 ⟨rfl, hB⟩
    have s1 := hB.size
    go_wp2_with fail
    refine (get_is a0 0 a1 0 0 c _ (by omega) (by decide) (by decide) b1.1 b1.2 HZ).mono ?_
    rintro e w' ⟨rfl, rfl⟩
    go_wp2_with fail
    go_ret
    exact ⟨rfl, hB⟩

set_option maxRecDepth 100000 in
theorem lifted (os : Os) (started : os.Started) (H : Type) (enc : TypeId × Value → H) :
    ReturnsInHanded {} Try.checked os 6 .any (Rows.prefixLeastSpec.pre6 enc Try.prog Try.f6 Rows.prefixLeastRow.domain false) (Rows.prefixLeastSpec.post enc Try.prog Try.f6 false true false false) := by
  refine returnsInHanded_of_change (C := Try.checked) own started (by kernel_rfl) Try.func6
    (ChangeSpec.witness6 (enc := enc) (C := Try.checked) false ⟨#[], #[.string ByteArray.empty, .int .i64 0], []⟩ 8 (by kernel_rfl) (by kernel_rfl) (by kernel_rfl) (by kernel_rfl)) ?_
  intro W base args ds gs before hval0 hW hcnd _
  have hval : ∀ (j : Nat) t v, Try.f6.params[j]? = some t → args[j]? = some v → Value.okWide Try.prog W .any base t v := hval0
  have hW' := hW
  obtain ⟨p, q, hA0, hV, rfl, hfz, hnd⟩ := hW
  have hA : DataW.TrodAll enc Try.prog W 0 (fun _ => true) true Try.f6.params.toList args.toList ds p := hA0
  rw [Try.params6] at hA hval
  obtain ⟨v0, vs0, d0, ds0, p0, q0, hargs, rfl, rfl, h0, r0⟩ := trodAll_cons hA
  obtain ⟨v1, vs1, d1, ds1, p1, q1, rfl, rfl, rfl, h1, r1⟩ := trodAll_cons r0
  obtain ⟨rfl, rfl, rfl⟩ := trodAll_nil r1
  obtain rfl : args = #[v0, v1] := by cases args; simp_all
  obtain ⟨rfl, rfl⟩ := trodVars_none hV
  obtain ⟨a0, rfl, rfl, rfl, w0⟩ := open_string Try.underlying9 (hval 0 9 v0 rfl rfl) h0
  obtain ⟨a1, rfl, rfl, rfl, w1⟩ := open_int Try.underlying3 (hval 1 3 v1 rfl rfl) h1
  clear hA0 hval0
  simp only [List.append_nil] at hW'
  refine (walk a0 a1 w0 w1 W).mono fun e W' ⟨he, hg⟩ => ?_
  subst he
  exact ⟨_, rfl, _, _, _, [], [], [], hW', (trodAll_cons_mk (shut_bool Try.underlying4 _) trodAll_mk0), (trodAll_cons_mk (shut_string Try.underlying9 w0) (trodAll_cons_mk (shut_int Try.underlying3 w1) trodAll_mk0)), rfl, hg.frame _, fun h => by cases h⟩

theorem over : Rows.prefixLeastRow.holds Try.pinned (OpenSpec.ofChange Rows.prefixLeastSpec) :=
  OpenClaim.holds_of_wide 6 Try.f6 rfl rfl rfl rfl rfl rfl rfl ⟨rfl, rfl, rfl, rfl, rfl⟩ rfl rfl rfl rfl rfl (by kernel_rfl) Try.func6 (by kernel_rfl)
    (of_decide_eq_true (by kernel_rfl)) (by unfold Func.isWrapper; first | (rw [if_pos (by decide +kernel)]; kernel_rfl) | (rw [if_neg (by decide +kernel)]; exact ⟨rfl, rfl⟩))
    (fun os started H enc _ => lifted os started H enc)

theorem proved : Rows.PrefixLeastSaid :=
  over
#print axioms proved
end Go.Proofs.Ytfkdkkbmcbmdjaa.prefixLeast
