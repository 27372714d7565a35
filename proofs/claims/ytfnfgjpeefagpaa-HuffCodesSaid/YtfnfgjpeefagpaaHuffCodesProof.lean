/- Proves HuffCodes: each sign has just the document's code; no code is the beginning of another one; together they fill all there is. No condition. -/
import Derived.Test.YtfnfgjpeefagpaaRows
import Derived.WalkKit
import Derived.ProofKit
import Derived.OpenShut
import Derived.ShutString
import Derived.Test.YtfnfgjpeefagpaaHfAwake
import Derived.Test.YtfnfgjpeefagpaaHfCode
import Derived.Test.YtfnfgjpeefagpaaHfRefCodes
import Derived.Deep.QuietTactic
import Derived.BigQuiet
import Derived.Below
namespace Go.Proofs.Ytfnfgjpeefagpaa.huffCodes
open Go.ChangeShapes Go.WideShapes Go.ChangeAt Go.RowKit
open Go.ChangeMaps (open_string shut_string)
set_option linter.unusedVariables false      -- a walk need not use every 'w<i>' (that an integer argument fits its kind)

theorem own : ownKnob Try.prog.godebug = none := by kernel_rfl

open Bytes Hf
theorem refLength_q (s : Nat) (w : World) (h : s < 257) : Calls Try.prog 12 #[.int .i64 (s : Int)] w fun e w' => e = .returned (.int .i64 (len s : Int)) ∧ w' = w :=
  (refLength_is s w h).mono fun _ _ h => ⟨h.1, h.2.symm⟩
theorem codeC_in {k : Nat} (h : k < 257) : codeC (k : Int) = cd k := by
  unfold codeC
  rw [if_pos (by omega), Int.toNat_natCast]
theorem codeL_in {k : Nat} (h : k < 257) : codeL (k : Int) = len k := by
  unfold codeL
  rw [if_pos (by omega), Int.toNat_natCast]
theorem div_ne {c d t : Nat} (h : c / 2 ^ t ≠ d) : ((c : Int) / 2 ^ t == (d : Int)) = false := by
  have e : (c : Int) / 2 ^ t = ((c / 2 ^ t : Nat) : Int) := by rw [Int.natCast_ediv, Int.natCast_pow]; rfl
  rw [beq_eq_false_iff_ne, e]
  omega
set_option maxHeartbeats 4000000 in
set_option maxRecDepth 100000 in

theorem walk (a0 : Int) (w0 : (Lit.int .i64 a0).wf = true) (w : World) :
    Calls Try.prog 3 #[.int .i64 a0] w fun e w' => e = .returned (.bool true) ∧ Below w.heap.size w w' := by
  have b0 := bounds_i64 w0
  go_enter Try.func3, Try.ntmps3
  go_wp2_with fail
  refine (awake_any _).mono ?_
  rintro e w1 ⟨rfl, hB1⟩
  go_wp2_with fail
  refine (refCodes_is _).mono ?_
  rintro e w2 ⟨rfl, hrow, hB2⟩
  have hlt2 : w1.heap.size < w2.heap.size := (Array.getElem?_eq_some_iff.1 hrow).1
  have n2 := Lib.hid (hB1.trans (hB2.mono hB1.size))
  have HROW := Lib.hid hrow
  have hl1 := hB1.size
  clear hB1 hB2 hrow
  generalize w1.heap.size = b at *
  generalize hg : w2.heap.size = g at *
  have G := Lib.hid hg; clear hg
  have hwg : w.heap.size ≤ g := by omega
  go_wp2_with fail
  go_loopw [4, 5] (fun sm i wr => ∃ k : Nat, k ≤ 257 ∧ sm = .int .u64 (sumTo k : Int) ∧ i = .int .i64 (k : Int) ∧ Below g w2 wr) (fun _ i _ => 257 - (intOf i).toNat)
  case atStart => exact ⟨0, by omega, rfl, rfl, Below.refl _ _⟩
  case round =>
    obtain ⟨k, hk, rfl, rfl, hB⟩ := hrel
    by_cases hlt : k < 257
    · have hdk : decide ((k : Int) ≤ 256) = true := by rw [decide_eq_true_eq]; omega
      have hlb := len_bd hlt
      have hfree := fun j (hj : j < k) => free hlt hj
      have hs1 : sumTo (k + 1) = sumTo k + 2 ^ (30 - len k) := rfl
      have hsm : sumTo (k + 1) ≤ 1073741824 := by rw [← sum_all]; exact sumTo_mono (by omega)
      have HC1 := Lib.hid (codeC_in hlt)
      have HC2 := Lib.hid (codeL_in hlt)
      have HF := Lib.hid hfree
      have hcb : cd k < 1073741824 := Nat.lt_of_lt_of_le hlb.2.2.1 (Nat.pow_le_pow_right (by decide) hlb.2.1)
      have RL := refLength_is k
      obtain ⟨c, hc⟩ : ∃ c, cd k = c := ⟨_, rfl⟩
      obtain ⟨n, hn⟩ : ∃ n, len k = n := ⟨_, rfl⟩
      rw [hc] at HC1 hcb
      rw [hn] at HC2 hlb hs1 RL
      rw [hc, hn] at HF
      obtain ⟨m, hm⟩ : ∃ m, 30 - n = m := ⟨_, rfl⟩
      rw [hm] at hs1
      have HRL := Lib.hid (fun W => RL W hlt)
      have hm30 : m ≤ 25 := by omega
      have hp : 2 ^ m ≤ 1073741824 := Nat.le_trans (Nat.pow_le_pow_right (by decide) hm30 : 2 ^ m ≤ 2 ^ 25) (by decide)
      have e1 : IntKind.i64.wrap (30 - (n : Int)) = (m : Int) := by rw [IntKind.wrap_i64]; omega
      have e2 : ((2 : Int) ^ m) = ((2 ^ m : Nat) : Int) := by rw [Int.natCast_pow]; rfl
      have HS1 := Lib.hid hs1
      have hk1 : (0 : Int) ≤ (k : Int) := by omega
      have hk2 : (k : Int) < 257 := by omega
      have e3 : IntKind.u64.wrap (c : Int) = (c : Int) := by rw [IntKind.wrap_u64]; omega
      have f1 : ((c : Int) != (c : Int)) = false := bne_self_eq_false _
      have f2 : ((n : Int) != (n : Int)) = false := bne_self_eq_false _
      obtain ⟨pw, hpw⟩ : ∃ pw, 2 ^ m = pw := ⟨_, rfl⟩
      rw [hpw] at HS1 hp e2
      obtain ⟨S2, hS2⟩ : ∃ S2, sumTo (k + 1) = S2 := ⟨_, rfl⟩
      rw [hS2] at hsm
      have e4 : IntKind.u64.wrap ((sumTo k : Int) + (pw : Int)) = (S2 : Int) := by rw [IntKind.wrap_u64]; have := HS1.out; omega
      have HS2 := Lib.hid hS2
      clear hS2
      clear hfree hs1 RL hpw
      go_wp2_with fail
      refine (code_is (k : Int) _ (by omega) (by omega) c n HC1 HC2).mono ?_
      rintro e w3 ⟨rfl, hB3⟩
      have hBB := hB.trans (hB3.mono (by have := hB.size; have := G.out; omega))
      have hx1 : w3.cell? ⟨b, k, none⟩ = some (.int .u64 (c : Int)) := by
        rw [cell_of_row _ _ _ _ _ _ ((hBB.block _ hlt2).trans HROW.out), tab_get _ hlt, hc]
      clear hB3 hB hc
      go_wp2_with fail
      refine (HRL.out _).mono ?_
      rintro e w' ⟨rfl, rfl⟩
      go_wp2_with fail
      clear hx1
      go_loopw [8] (fun i wi => ∃ j : Nat, j ≤ k ∧ i = .int .i64 (j : Int) ∧ Below g w2 wi) (fun i _ => k - (intOf i).toNat)
      case atStart => exact ⟨0, by omega, rfl, hBB⟩
      clear hBB
      case round =>
        obtain ⟨j, hj, rfl, hB⟩ := hrel
        by_cases hjk : j < k
        · have hj257 : j < 257 := by omega
          have hx1 : wr.cell? ⟨b, j, none⟩ = some (.int .u64 (cd j : Int)) := by
            rw [cell_of_row _ _ _ _ _ _ ((hB.block _ hlt2).trans HROW.out), tab_get _ hj257]
          have hbl := (len_bd hj257).2.1
          have hj1 : (0 : Int) ≤ (j : Int) := by omega
          have hj2 : (j : Int) < 257 := by omega
          have hfr := HF.out j hjk
          have hdb : cd j < 1073741824 := Nat.lt_of_lt_of_le (len_bd hj257).2.2.1 (Nat.pow_le_pow_right (by decide) hbl)
          have RQ := fun W => refLength_q j W hj257
          obtain ⟨d, hd⟩ : ∃ d, cd j = d := ⟨_, rfl⟩
          obtain ⟨q, hq⟩ : ∃ q, len j = q := ⟨_, rfl⟩
          rw [hd] at hx1 hfr hdb
          rw [hq] at hfr hbl RQ
          have HRQ := Lib.hid RQ
          clear RQ hd hq
          by_cases hqn : q ≤ n
          · obtain ⟨t, ht⟩ : ∃ t, n - q = t := ⟨_, rfl⟩
            have e5 : IntKind.i64.wrap ((n : Int) - (q : Int)) = (t : Int) := by rw [IntKind.wrap_i64]; omega
            have f3 := div_ne (c := c) (d := d) (t := t) (fun h => hfr.1 ⟨hqn, by rw [ht]; exact h⟩)
            have hqn2 : (q : Int) ≤ (n : Int) := by omega
            have ht30 : t ≤ 30 := by omega
            have hmin : min t 64 = t := by omega
            clear hfr ht
            go_wp2_with fail
            go_quiet ((go_at_call 12; exact Calls.quiet_of_same (HRQ.out _)))
            go_wp2_with fail
            go_roundw
            case rel => exact ⟨j + 1, by omega, rfl, below_drewN hB _⟩
            case measure => simp [intOf] <;> omega
          · obtain ⟨t, ht⟩ : ∃ t, q - n = t := ⟨_, rfl⟩
            have e5 : IntKind.i64.wrap ((q : Int) - (n : Int)) = (t : Int) := by rw [IntKind.wrap_i64]; omega
            have f3 := div_ne (c := d) (d := c) (t := t) (fun h => hfr.2 ⟨by omega, by rw [ht]; exact h⟩)
            have hqn2 : ¬ (q : Int) ≤ (n : Int) := by omega
            have hqn3 : (n : Int) < (q : Int) := by omega
            have ht30 : t ≤ 30 := by omega
            have hmin : min t 64 = t := by omega
            clear hfr ht
            go_wp2_with fail
            go_quiet ((go_at_call 12; exact Calls.quiet_of_same (HRQ.out _)))
            go_wp2_with fail
            go_roundw
            case rel => exact ⟨j + 1, by omega, rfl, below_drewN hB _⟩
            case measure => simp [intOf] <;> omega
        · have ej : ¬ (j : Int) < (k : Int) := by omega
          go_wp2_with fail
          go_roundw
          case rel => exact ⟨k + 1, by omega, by rw [HS2.out], rfl, hB⟩
          case measure => simp [intOf] <;> omega
    · have e : k = 257 := by omega
      subst e
      obtain ⟨c, hc⟩ : ∃ c, codeC a0 = c := ⟨_, rfl⟩
      obtain ⟨n, hn⟩ : ∃ n, codeL a0 = n := ⟨_, rfl⟩
      have HC := Lib.hid hc
      have HN := Lib.hid hn
      have hz : ¬ (0 ≤ a0 ∧ a0 ≤ 256) → c = 0 ∧ n = 0 := fun h => by
        unfold codeC at hc
        unfold codeL at hn
        rw [if_neg h] at hc hn
        exact ⟨hc.symm, hn.symm⟩
      have hsa : (sumTo 257 : Int) = 1073741824 := by rw [sum_all]; rfl
      have HZ := Lib.hid hz
      have hn3 := n2.out.trans (hB.mono hwg)
      have hw3 := hn3.size
      clear hc hn hz hB
      by_cases hneg : a0 < 0
      · obtain ⟨rfl, rfl⟩ := HZ.out (by omega)
        go_wp2_with fail
        refine (code_is a0 _ (by omega) (by omega) 0 0 HC HN).mono ?_
        rintro e w5 ⟨rfl, hB5⟩
        have n5 := hn3.trans (hB5.mono hw3)
        go_wp2_with fail
        go_ret
        exact ⟨rfl, n5⟩
      · by_cases hbig : 256 < a0
        · obtain ⟨rfl, rfl⟩ := HZ.out (by omega)
          go_wp2_with fail
          refine (code_is a0 _ (by omega) (by omega) 0 0 HC HN).mono ?_
          rintro e w5 ⟨rfl, hB5⟩
          have n5 := hn3.trans (hB5.mono hw3)
          go_wp2_with fail
          go_ret
          exact ⟨rfl, n5⟩
        · have h01 : (0 : Int) ≤ a0 := by omega
          have h02 : a0 ≤ 256 := by omega
          go_wp2_with fail
          refine (code_is a0 _ (by omega) (by omega) c n HC HN).mono ?_
          rintro e w5 ⟨rfl, hB5⟩
          have n5 := hn3.trans (hB5.mono hw3)
          go_wp2_with fail
          go_ret
          exact ⟨rfl, n5⟩

set_option maxRecDepth 100000 in
theorem lifted (os : Os) (started : os.Started) (H : Type) (enc : TypeId × Value → H) :
    ReturnsInHanded {} Try.checked os 3 .any (Rows.huffCodesSpec.pre6 enc Try.prog Try.f3 Rows.huffCodesRow.domain false) (Rows.huffCodesSpec.post enc Try.prog Try.f3 false true false false) := by
  refine returnsInHanded_of_change (C := Try.checked) own started (by kernel_rfl) Try.func3
    (ChangeSpec.witness6 (enc := enc) (C := Try.checked) false ⟨#[], #[.int .i64 0], []⟩ 8 (by kernel_rfl) (by kernel_rfl) (by kernel_rfl) (by kernel_rfl)) ?_
  intro W base args ds gs before hval0 hW hcnd _
  have hval : ∀ (j : Nat) t v, Try.f3.params[j]? = some t → args[j]? = some v → Value.okWide Try.prog W .any base t v := hval0
  have hW' := hW
  obtain ⟨p, q, hA0, hV, rfl, hfz, hnd⟩ := hW
  have hA : DataW.TrodAll enc Try.prog W 0 (fun _ => true) true Try.f3.params.toList args.toList ds p := hA0
  rw [Try.params3] at hA hval
  obtain ⟨v0, vs0, d0, ds0, p0, q0, hargs, rfl, rfl, h0, r0⟩ := trodAll_cons hA
  obtain ⟨rfl, rfl, rfl⟩ := trodAll_nil r0
  obtain rfl : args = #[v0] := by cases args; simp_all
  obtain ⟨rfl, rfl⟩ := trodVars_none hV
  obtain ⟨a0, rfl, rfl, rfl, w0⟩ := open_int Try.underlying3 (hval 0 3 v0 rfl rfl) h0
  clear hA0 hval0
  simp only [List.append_nil] at hW'
  refine (walk a0 w0 W).mono fun e W' ⟨he, hg⟩ => ?_
  subst he
  exact ⟨_, rfl, _, _, _, [], [], [], hW', (trodAll_cons_mk (shut_bool Try.underlying4 _) trodAll_mk0), (trodAll_cons_mk (shut_int Try.underlying3 w0) trodAll_mk0), rfl, hg.frame _, fun h => by cases h⟩

theorem over : Rows.huffCodesRow.holds Try.pinned (OpenSpec.ofChange Rows.huffCodesSpec) :=
  OpenClaim.holds_of_wide 3 Try.f3 rfl rfl rfl rfl rfl rfl rfl ⟨rfl, rfl, rfl, rfl, rfl⟩ rfl rfl rfl rfl rfl (by kernel_rfl) Try.func3 (by kernel_rfl)
    (of_decide_eq_true (by kernel_rfl)) (by unfold Func.isWrapper; first | (rw [if_pos (by decide +kernel)]; kernel_rfl) | (rw [if_neg (by decide +kernel)]; exact ⟨rfl, rfl⟩))
    (fun os started H enc _ => lifted os started H enc)

theorem proved : Rows.HuffCodesSaid :=
  over
#print axioms proved
end Go.Proofs.Ytfnfgjpeefagpaa.huffCodes
