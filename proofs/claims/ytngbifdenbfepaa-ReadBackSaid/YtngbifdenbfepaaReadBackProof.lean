/- Proves ReadBack: a name that stands behind any bytes is read as it is, and by a pointer to it; a pointer to itself is none. No condition. -/
import Derived.Test.YtngbifdenbfepaaRows
import Derived.WalkKit
import Derived.ProofKit
import Derived.OpenShut
import Derived.ShutString
import Derived.Test.YtngbifdenbfepaaReadAwake
import Derived.Test.YtngbifdenbfepaaNameRefLabels
import Derived.Test.YtngbifdenbfepaaNmBack
import Derived.Below
namespace Go.Proofs.Ytngbifdenbfepaa.readBack
open Go.ChangeShapes Go.WideShapes Go.ChangeAt Go.RowKit
open Go.ChangeMaps (open_string shut_string)
set_option linter.unusedVariables false      -- a walk need not use every 'w<i>' (that an integer argument fits its kind)

theorem own : ownKnob Try.prog.godebug = none := by kernel_rfl

open Bytes NameMath NmMath

set_option maxRecDepth 100000 in

theorem walk (a0 : ByteArray) (a1 : ByteArray) (a2 : ByteArray) (w0 : a0.size ≤ maxLen) (w1 : a1.size ≤ maxLen) (w2 : a2.size ≤ maxLen) (w : World) :
    Calls Try.prog 6 #[.string a0, .string a1, .string a2] w fun e w' => e = .returned (.bool true) ∧ Below w.heap.size w w' := by
  have n0 : Below w.heap.size w w := Below.refl _ _
  by_cases h1 : (10000 : Int) < a0.size
  · go_enter Try.func6, Try.ntmps6
    go_wp2_with fail
    refine (awake_any _).mono ?_
    rintro e w1 ⟨rfl, hB⟩
    go_wp2_with fail
    go_ret
    exact ⟨rfl, hB⟩
  by_cases h2 : (1000 : Int) < a2.size
  · go_enter Try.func6, Try.ntmps6
    go_wp2_with fail
    refine (awake_any _).mono ?_
    rintro e w1 ⟨rfl, hB⟩
    go_wp2_with fail
    go_ret
    exact ⟨rfl, hB⟩
  have hi1 : (a0.size : Int) ≤ 10000 := by omega
  have hi2 : (a2.size : Int) ≤ 1000 := by omega
  by_cases hN : isN a1.data.toList = true
  · have h255 : a1.size ≤ 255 := by
      obtain ⟨L, hL⟩ := isN_some hN
      rw [Lib.size_eq]
      exact (labels_some hL).2.2
    have his := Lib.hid (fun w => refIs_is a1 true w (by omega) hN)
    obtain ⟨A, hA⟩ : ∃ A, a0.size = A := ⟨_, rfl⟩
    obtain ⟨T, hT⟩ : ∃ T, (a0 ++ a1).size = T := ⟨_, rfl⟩
    have hTs : T = A + a1.size := by rw [← hT, ← hA, ByteArray.size_append]
    obtain ⟨b1, hb1⟩ : ∃ b : UInt8, b.toNat = 192 + A / 256 := ⟨UInt8.ofNat (192 + A / 256), by rw [UInt8.toNat_ofNat']; have e : (2 : Nat) ^ 8 = 256 := rfl; omega⟩
    obtain ⟨b2, hb2⟩ : ∃ b : UInt8, b.toNat = A % 256 := ⟨UInt8.ofNat (A % 256), by rw [UInt8.toNat_ofNat']; have e : (2 : Nat) ^ 8 = 256 := rfl; omega⟩
    have hq : (A : Int) / 256 = ((A / 256 : Nat) : Int) := by omega
    have hm : (A : Int) % 256 = ((A % 256 : Nat) : Int) := by omega
    obtain ⟨q, hqn⟩ : ∃ q, A / 256 = q := ⟨_, rfl⟩
    obtain ⟨m, hmn⟩ : ∃ m, A % 256 = m := ⟨_, rfl⟩
    rw [hqn] at hq hb1
    rw [hmn] at hm hb2
    have hql : q ≤ 39 := by omega
    have hml : m < 256 := by omega
    have hcv := Lib.hid (fun w => conv_new w [b1, b2] #[.int .u8 (192 + (q : Int)), .int .u8 (m : Int)] 2 (by simp [byteCells, hb1, hb2]) rfl)
    have hy : (mk [b1, b2]).size = 2 := rfl
    have hl0 := Lib.size_eq a0
    have hl1 := Lib.size_eq a1
    have f1 : nmAt ((a0 ++ a1) ++ mk [b1, b2] ++ a2).data.toList (A : Int) = .ok (a1.data.toList, T) := by
      rw [cat_list, cat_list, cat_list, mk_list, List.append_assoc, hTs, ← hA, hl0, hl1]
      exact nmAt_name hN
    have f2 : nmAt ((a0 ++ a1) ++ mk [b1, b2] ++ a2).data.toList (T : Int) = .ok (a1.data.toList, T + 2) := by
      rw [cat_list, cat_list, cat_list, mk_list, List.append_assoc, hTs, ← hA, hl0, hl1]
      exact nmAt_back hN (by rw [hb1, ← hqn, ← hA, hl0]) (by rw [hb2, ← hmn, ← hA, hl0])
    have f3 : nmAt (a0 ++ mk [b1, b2] ++ a2).data.toList (A : Int) = .error 42 := by
      rw [cat_list, cat_list, mk_list, List.append_assoc, ← hA, hl0]
      exact nmAt_loop (by rw [hb1, ← hqn, ← hA, hl0]) (by rw [hb2, ← hmn, ← hA, hl0])
    have z1 : ((a0 ++ a1) ++ mk [b1, b2] ++ a2).size ≤ 1000000 := by rw [ByteArray.size_append, ByteArray.size_append, hy, hT]; omega
    have z3 : (a0 ++ mk [b1, b2] ++ a2).size ≤ 1000000 := by rw [ByteArray.size_append, ByteArray.size_append, hy, hA]; omega
    have F1 := Lib.hid (fun w => name_any _ (A : Int) _ w z1 (by omega) (by omega) f1)
    have F2 := Lib.hid (fun w => name_any _ (T : Int) _ w z1 (by omega) (by omega) f2)
    have F3 := Lib.hid (fun w => name_any _ (A : Int) _ w z3 (by omega) (by omega) f3)
    have hmk := Lib.hid (mk_data a1)
    have hi1' : (A : Int) ≤ 10000 := by omega
    have hTi : (T : Int) ≤ 10255 := by omega
    clear f1 f2 f3 z1 z3 hb1 hb2 hqn hmn hl0 hl1 hTs hN h1 h2
    generalize mk [b1, b2] = y at *
    go_enter Try.func6, Try.ntmps6
    go_wp2_with fail
    refine (awake_any _).mono ?_
    rintro e w1 ⟨rfl, n1⟩
    have N1 := Lib.hid n1; clear n1 n0
    go_wp2_with fail
    refine (his.out _).mono ?_
    rintro e w2 ⟨rfl, n2⟩
    have N2 := Lib.hid (N1.out.trans (n2.mono N1.out.size)); clear n2 N1
    have hc2 := hcv.out w2
    go_wp2_with fail
    have N3 : Hid (Below w.heap.size w (w2.alloc (.cells #[.int .u8 (192 + (q : Int)), .int .u8 (m : Int)] 5))) := N2.out.alloc N2.out.size _
    clear N2 hc2
    generalize w2.alloc (.cells #[.int .u8 (192 + (q : Int)), .int .u8 (m : Int)] 5) = w3 at N3 ⊢
    refine (F1.out _).mono ?_
    rintro e w4 ⟨rfl, n4⟩
    rw [hmk.out]
    have N4 := Lib.hid (N3.out.trans (n4.mono N3.out.size)); clear n4 N3
    go_wp2_with fail
    refine (F2.out _).mono ?_
    rintro e w5 ⟨rfl, n5⟩
    rw [hmk.out]
    have N5 := Lib.hid (N4.out.trans (n5.mono N4.out.size)); clear n5 N4
    have hc5 := hcv.out w5
    have fy : (a1.toList == a1.toList) = true := beq_self_eq_true _
    go_wp2_with fail
    have N6 : Hid (Below w.heap.size w (w5.alloc (.cells #[.int .u8 (192 + (q : Int)), .int .u8 (m : Int)] 5))) := N5.out.alloc N5.out.size _
    clear N5 hc5
    generalize w5.alloc (.cells #[.int .u8 (192 + (q : Int)), .int .u8 (m : Int)] 5) = w6 at N6 ⊢
    refine (F3.out _).mono ?_
    rintro e w7 ⟨rfl, n7⟩
    have N7 := Lib.hid (N6.out.trans (n7.mono N6.out.size)); clear n7 N6
    go_wp2_with fail
    go_ret
    exact ⟨rfl, N7.out⟩
  · have hN' : isN a1.data.toList = false := by simpa using hN
    have his : Hid (∀ w, Calls Try.prog 14 #[.string a1] w fun e w' => e = .returned (.bool false) ∧ Below w.heap.size w w') := fun w => by
      by_cases hl : 255 < a1.size
      · exact refIs_long a1 w w1 hl
      · exact refIs_is a1 false w (by omega) hN'
    clear hN hN' h1 h2
    go_enter Try.func6, Try.ntmps6
    go_wp2_with fail
    refine (awake_any _).mono ?_
    rintro e w1 ⟨rfl, n1⟩
    have N1 := Lib.hid n1; clear n1 n0
    go_wp2_with fail
    refine (his.out _).mono ?_
    rintro e w2 ⟨rfl, n2⟩
    have N2 := Lib.hid (N1.out.trans (n2.mono N1.out.size)); clear n2 N1
    go_wp2_with fail
    go_ret
    exact ⟨rfl, N2.out⟩

set_option maxRecDepth 100000 in
theorem lifted (os : Os) (started : os.Started) (H : Type) (enc : TypeId × Value → H) :
    ReturnsInHanded {} Try.checked os 6 .any (Rows.readBackSpec.pre6 enc Try.prog Try.f6 Rows.readBackRow.domain false) (Rows.readBackSpec.post enc Try.prog Try.f6 false true false false) := by
  refine returnsInHanded_of_change (C := Try.checked) own started (by kernel_rfl) Try.func6
    (ChangeSpec.witness6 (enc := enc) (C := Try.checked) false ⟨#[], #[.string ByteArray.empty, .string ByteArray.empty, .string ByteArray.empty], []⟩ 8 (by kernel_rfl) (by kernel_rfl) (by kernel_rfl) (by kernel_rfl)) ?_
  intro W base args ds gs before hval0 hW hcnd _
  have hval : ∀ (j : Nat) t v, Try.f6.params[j]? = some t → args[j]? = some v → Value.okWide Try.prog W .any base t v := hval0
  have hW' := hW
  obtain ⟨p, q, hA0, hV, rfl, hfz, hnd⟩ := hW
  have hA : DataW.TrodAll enc Try.prog W 0 (fun _ => true) true Try.f6.params.toList args.toList ds p := hA0
  rw [Try.params6] at hA hval
  obtain ⟨v0, vs0, d0, ds0, p0, q0, hargs, rfl, rfl, h0, r0⟩ := trodAll_cons hA
  obtain ⟨v1, vs1, d1, ds1, p1, q1, rfl, rfl, rfl, h1, r1⟩ := trodAll_cons r0
  obtain ⟨v2, vs2, d2, ds2, p2, q2, rfl, rfl, rfl, h2, r2⟩ := trodAll_cons r1
  obtain ⟨rfl, rfl, rfl⟩ := trodAll_nil r2
  obtain rfl : args = #[v0, v1, v2] := by cases args; simp_all
  obtain ⟨rfl, rfl⟩ := trodVars_none hV
  obtain ⟨a0, rfl, rfl, rfl, w0⟩ := open_string Try.underlying9 (hval 0 9 v0 rfl rfl) h0
  obtain ⟨a1, rfl, rfl, rfl, w1⟩ := open_string Try.underlying9 (hval 1 9 v1 rfl rfl) h1
  obtain ⟨a2, rfl, rfl, rfl, w2⟩ := open_string Try.underlying9 (hval 2 9 v2 rfl rfl) h2
  clear hA0 hval0
  simp only [List.append_nil] at hW'
  refine (walk a0 a1 a2 w0 w1 w2 W).mono fun e W' ⟨he, hg⟩ => ?_
  subst he
  exact ⟨_, rfl, _, _, _, [], [], [], hW', (trodAll_cons_mk (shut_bool Try.underlying4 _) trodAll_mk0), (trodAll_cons_mk (shut_string Try.underlying9 w0) (trodAll_cons_mk (shut_string Try.underlying9 w1) (trodAll_cons_mk (shut_string Try.underlying9 w2) trodAll_mk0))), rfl, hg.frame _, fun h => by cases h⟩

theorem over : Rows.readBackRow.holds Try.pinned (OpenSpec.ofChange Rows.readBackSpec) :=
  OpenClaim.holds_of_wide 6 Try.f6 rfl rfl rfl rfl rfl rfl rfl ⟨rfl, rfl, rfl, rfl, rfl⟩ rfl rfl rfl rfl rfl (by kernel_rfl) Try.func6 (by kernel_rfl)
    (of_decide_eq_true (by kernel_rfl)) (by unfold Func.isWrapper; first | (rw [if_pos (by decide +kernel)]; kernel_rfl) | (rw [if_neg (by decide +kernel)]; exact ⟨rfl, rfl⟩))
    (fun os started H enc _ => lifted os started H enc)

theorem proved : Rows.ReadBackSaid :=
  over
#print axioms proved
end Go.Proofs.Ytngbifdenbfepaa.readBack
