/- Proves NameZones: a name is under itself and under the root; what two names are both ways they are alike; a label put ahead of a name leaves it under all that it is under. No condition. -/
import Derived.Test.YtepbpaaielfpnaaRows
import Derived.WalkKit
import Derived.ProofKit
import Derived.OpenShut
import Derived.ShutString
import Derived.Test.YtepbpaaielfpnaaNameAwake
import Derived.Below
namespace Go.Proofs.Ytepbpaaielfpnaa.nameZones
open Go.ChangeShapes Go.WideShapes Go.ChangeAt Go.RowKit
open Go.ChangeMaps (open_string shut_string)
set_option linter.unusedVariables false      -- a walk need not use every 'w<i>' (that an integer argument fits its kind)

theorem own : ownKnob Try.prog.godebug = none := by kernel_rfl

open Bytes Low Strs NameMath
theorem long_len {l : List UInt8} {L : List (List UInt8)} : (nameL (l :: L)).length = (nameL L).length + l.length + 1 := by
  rw [nameL_len, nameL_len]
  simp only [wire, List.length_cons, List.length_append]
  omega
set_option maxHeartbeats 4000000 in
set_option maxRecDepth 100000 in

theorem walk (a0 : ByteArray) (a1 : ByteArray) (a2 : ByteArray) (w0 : a0.size ≤ maxLen) (w1 : a1.size ≤ maxLen) (w2 : a2.size ≤ maxLen) (w : World) :
    Calls Try.prog 7 #[.string a0, .string a1, .string a2] w fun e w' => e = .returned (.bool true) ∧ Below w.heap.size w w' := by
  have n0 : Below w.heap.size w w := Below.refl _ _
  by_cases h1 : (5000 : Int) < a0.size
  · go_enter Try.func7, Try.ntmps7
    go_wp2_with fail
    refine (awake_any _).mono ?_
    rintro e w1 ⟨rfl, hB⟩
    go_wp2_with fail
    go_ret
    exact ⟨rfl, hB⟩
  by_cases h2 : (5000 : Int) < a1.size
  · go_enter Try.func7, Try.ntmps7
    go_wp2_with fail
    refine (awake_any _).mono ?_
    rintro e w1 ⟨rfl, hB⟩
    go_wp2_with fail
    go_ret
    exact ⟨rfl, hB⟩
  by_cases h3 : (100 : Int) < a2.size
  · go_enter Try.func7, Try.ntmps7
    go_wp2_with fail
    refine (awake_any _).mono ?_
    rintro e w1 ⟨rfl, hB⟩
    go_wp2_with fail
    go_ret
    exact ⟨rfl, hB⟩
  have hs : a0.size ≤ 5000 := by omega
  have ht : a1.size ≤ 5000 := by omega
  have hl : a2.size ≤ 100 := by omega
  cases hA : isN a0.data.toList with
  | false =>
    have HA := Lib.hid hA
    clear hA
    go_enter Try.func7, Try.ntmps7
    go_wp2_with fail
    refine (awake_any _).mono ?_
    rintro e w1 ⟨rfl, n1⟩
    have s1 := n1.size
    clear n0
    go_wp2_with fail
    refine (is_is a0 false _ (by omega) HA).mono ?_
    rintro e w' ⟨rfl, rfl⟩
    go_wp2_with fail
    go_ret
    exact ⟨rfl, n1⟩
  | true =>
    cases hC : isN a1.data.toList with
    | false =>
      have HA := Lib.hid hA
      have HC := Lib.hid hC
      clear hA hC
      go_enter Try.func7, Try.ntmps7
      go_wp2_with fail
      refine (awake_any _).mono ?_
      rintro e w1 ⟨rfl, n1⟩
      have s1 := n1.size
      clear n0
      go_wp2_with fail
      refine (is_is a0 true _ (by omega) HA).mono ?_
      rintro e w' ⟨rfl, rfl⟩
      go_wp2_with fail
      refine (is_is a1 false _ (by omega) HC).mono ?_
      rintro e w' ⟨rfl, rfl⟩
      go_wp2_with fail
      go_ret
      exact ⟨rfl, n1⟩
    | true =>
      have HA := Lib.hid hA
      have HC := Lib.hid hC
      obtain ⟨A, hLA⟩ := isN_some hA
      obtain ⟨C, hLC⟩ := isN_some hC
      have hAc := (lab_small hLA).1
      obtain ⟨nA, hnA⟩ : ∃ n, A.length = n := ⟨_, rfl⟩
      rw [hnA] at hAc
      have HNA := Lib.hid hnA
      have HLab := Lib.hid (labL_of hLA)
      have U1 : Hid (underN a0.data.toList a0.data.toList = true) := Lib.hid (by rw [underN_of hLA hLA, underL_self])
      have U2 : Hid (underN a0.data.toList (⟨#[0]⟩ : ByteArray).data.toList = true) := Lib.hid (by rw [underN_of hLA labels_root, underL_root])
      obtain ⟨q1, hq1⟩ : ∃ q, underL A C = q := ⟨_, rfl⟩
      have U3 : Hid (underN a0.data.toList a1.data.toList = q1) := Lib.hid (by rw [underN_of hLA hLC, hq1])
      obtain ⟨q2, hq2⟩ : ∃ q, decide (lowLs A = lowLs C) = q := ⟨_, rfl⟩
      have U5 : Hid (sameN a0.data.toList a1.data.toList = q2) := Lib.hid (by rw [sameN_of hLA hLC, hq2])
      have U4 : Hid (q1 = true → underN a1.data.toList a0.data.toList = q2) := Lib.hid (fun h => by rw [underN_of hLC hLA, underL_both (by rw [hq1]; exact h), hq2])
      have e2 : (q2 != q2) = false := bne_self_eq_false _
      obtain ⟨L, hLL⟩ : ∃ L, a2.data.toList :: A = L := ⟨_, rfl⟩
      have HLL := Lib.hid hLL
      obtain ⟨x, hx⟩ : ∃ x, mk (makeL L) = x := ⟨_, rfl⟩
      obtain ⟨E, hE⟩ : ∃ E, makeE L = E := ⟨_, rfl⟩
      have HX := Lib.hid hx
      have HE := Lib.hid hE
      have HQ1 := Lib.hid hq1
      have HLA := Lib.hid hLA
      have HLC := Lib.hid hLC
      clear hA hC hLA hLC hnA hq1 hq2 hLL hx hE
      cases q1 with
      | true =>
        have U4' := Lib.hid (U4.out rfl)
        go_enter Try.func7, Try.ntmps7
        go_wp2_with fail
        refine (awake_any _).mono ?_
        rintro e w1 ⟨rfl, n1⟩
        have s1 := n1.size
        clear n0
        go_wp2_with fail
        refine (is_is a0 true _ (by omega) HA).mono ?_
        rintro e w' ⟨rfl, rfl⟩
        go_wp2_with fail
        refine (is_is a1 true _ (by omega) HC).mono ?_
        rintro e w' ⟨rfl, rfl⟩
        go_wp2_with fail
        refine (under_is a0 a0 true _ (by omega) (by omega) U1).mono ?_
        rintro e w2 ⟨rfl, hB⟩
        have n2 := n1.trans (hB.mono s1)
        have s2 := n2.size
        clear hB n1 s1
        go_wp2_with fail
        refine (under_is a0 _ true _ (by omega) (by decide) U2).mono ?_
        rintro e w3 ⟨rfl, hB⟩
        have n3 := n2.trans (hB.mono s2)
        have s3 := n3.size
        clear hB n2 s2
        go_wp2_with fail
        refine (under_is a0 a1 true _ (by omega) (by omega) U3).mono ?_
        rintro e w4 ⟨rfl, hB⟩
        have n4 := n3.trans (hB.mono s3)
        have s4 := n4.size
        clear hB n3 s3
        go_wp2_with fail
        refine (under_is a1 a0 q2 _ (by omega) (by omega) U4').mono ?_
        rintro e w5 ⟨rfl, hB⟩
        have n5 := n4.trans (hB.mono s4)
        have s5 := n5.size
        clear hB n4 s4
        go_wp2_with fail
        refine (nameSame_is a0 a1 q2 _ (by omega) (by omega) U5).mono ?_
        rintro e w6 ⟨rfl, hB⟩
        have n6 := n5.trans (hB.mono s5)
        have s6 := n6.size
        clear hB n5 s5
        go_wp2_with fail
        have hrow := own_new w6 w6.heap.size [a2.data.toList] #[.string a2] 1 (Nat.le_refl _) (by rw [strCs_one, mk_data]) rfl (by decide)
        have HROW := Lib.hid hrow
        clear hrow
        refine (labels_any a0 A _ (by omega) HLab).mono ?_
        rintro e w20 ⟨v, rfl, hO, hB⟩
        have hsrc := own_src hO rfl
        rw [HNA.out] at hsrc
        have HR1 := Lib.hid (own_below HROW.out hB)
        have HSRC := Lib.hid hsrc
        have hB20 : Below w.heap.size w w20 := (n6.alloc s6 _).trans (hB.mono (by simp; omega))
        have hg20 : w6.heap.size ≤ w20.heap.size := by have := hB.size; simp at this; omega
        clear hO hsrc hB HROW
        go_wp2_with (at_builtin; refine wpList_append_strs rfl _ _ rfl w6.heap.size _ 1 (strCs [a2.data.toList]) rfl HR1.out nA A HSRC.out (by omega) hg20 ?_)
        intro v' w21 hown hgrow
        have hown2 : w21.ownsRow w6.heap.size 9 1 v' (1 + nA) (strCs L) := by
          rw [← strCs_cat] at hown
          rw [← HLL.out]
          exact hown
        have hB21 : Below w.heap.size w w21 := hB20.grown hgrow hB20.size (fun k hk => by have := (HR1.out.lt k hk).1; omega)
        have hLlen : 1 + nA = L.length := by rw [← HLL.out, List.length_cons, HNA.out]; omega
        obtain ⟨A', c', rfl, _, hrd, _⟩ := own_rds hown2 hLlen
        have HRD := Lib.hid hrd
        have HLL2 := Lib.hid hLlen.symm
        have s21 := hB21.size
        clear hown hown2 hgrow hrd hLlen HR1 HSRC hB20 hg20
        go_wp2_with fail
        refine (make_is A' c' (1 + nA) L x E _ HRD.out HLL2 (by omega) HX HE).mono ?_
        rintro e w22 ⟨rfl, hB⟩
        have n22 := hB21.trans (hB.mono s21)
        have s22 := n22.size
        clear hB hB21 s21
        by_cases hE0 : E = 0
        · have hmE : makeE L = 0 := HE.out.trans hE0
          have hlx := labels_make hmE
          have hxl : x.data.toList = makeL L := by rw [← HX.out, mk_list]
          rw [← hxl, ← HLL.out] at hlx
          have hI := isN_of hlx
          have V1 : Hid (underN x.data.toList a0.data.toList = true) := Lib.hid (by rw [underN_of hlx HLA.out, underL_cons])
          have V2 : Hid (underN a0.data.toList x.data.toList = false) := Lib.hid (by rw [underN_of HLA.out hlx, underL_not])
          have V3 : Hid (underN x.data.toList a1.data.toList = true) := Lib.hid (by rw [underN_of hlx HLC.out]; exact underL_more _ HQ1.out)
          have hlen : x.size = a0.size + a2.size + 1 := by
            have h1 := (labels_some hlx).1
            have h2 := (labels_some HLA.out).1
            have := congrArg List.length h1
            rw [long_len, h2, ← Lib.size_eq, ← Lib.size_eq, ← Lib.size_eq] at this
            exact this.symm
          have HF : Hid (mk (foldN x.data.toList) = foldS x) := Lib.hid (by rw [foldN_yes hI]; rfl)
          have hRF := Lib.hid (fun w => refFold_any x w (by omega))
          have hxs : x.size ≤ 5200 := by omega
          have f1 : ((E : Int) != 0) = false := bne_eq_false_iff_eq.2 (by omega)
          have f2 : ((x.size : Int) == (a0.size : Int) + (a2.size : Int) + 1) = true := beq_iff_eq.2 (by omega)
          generalize foldS x = y at *
          have f3 : (y.toList == y.toList) = true := beq_self_eq_true _
          clear hE0 hmE hlx hxl hI hlen
          go_wp2_with fail
          refine (under_is x a0 true _ (by omega) (by omega) V1).mono ?_
          rintro e w23 ⟨rfl, hB⟩
          have n23 := n22.trans (hB.mono s22)
          have s23 := n23.size
          clear hB n22 s22
          go_wp2_with fail
          refine (under_is a0 x false _ (by omega) (by omega) V2).mono ?_
          rintro e w24 ⟨rfl, hB⟩
          have n24 := n23.trans (hB.mono s23)
          have s24 := n24.size
          clear hB n23 s23
          go_wp2_with fail
          refine (under_is a0 a1 true _ (by omega) (by omega) U3).mono ?_
          rintro e w25 ⟨rfl, hB⟩
          have n25 := n24.trans (hB.mono s24)
          have s25 := n25.size
          clear hB n24 s24
          go_wp2_with fail
          refine (under_is x a1 true _ (by omega) (by omega) V3).mono ?_
          rintro e w26 ⟨rfl, hB⟩
          have n26 := n25.trans (hB.mono s25)
          have s26 := n26.size
          clear hB n25 s25
          go_wp2_with fail
          refine (hRF.out _).mono ?_
          rintro e w30 ⟨rfl, hB⟩
          have n30 := n26.trans (hB.mono s26)
          have s30 := n30.size
          clear hB n26 s26
          go_wp2_with fail
          refine (nameFold_is x y _ (by omega) HF).mono ?_
          rintro e w31 ⟨rfl, hB⟩
          have n31 := n30.trans (hB.mono s30)
          go_wp2_with fail
          go_ret
          exact ⟨rfl, n31⟩
        · have f1 : ((E : Int) != 0) = true := bne_iff_ne.2 (by omega)
          obtain rfl : ⟨#[]⟩ = x := by rw [← HX.out, makeL_no (by rw [HE.out]; exact hE0)]; rfl
          clear hE0
          go_wp2_with fail
          go_ret
          exact ⟨rfl, n22⟩
      | false =>
        go_enter Try.func7, Try.ntmps7
        go_wp2_with fail
        refine (awake_any _).mono ?_
        rintro e w1 ⟨rfl, n1⟩
        have s1 := n1.size
        clear n0
        go_wp2_with fail
        refine (is_is a0 true _ (by omega) HA).mono ?_
        rintro e w' ⟨rfl, rfl⟩
        go_wp2_with fail
        refine (is_is a1 true _ (by omega) HC).mono ?_
        rintro e w' ⟨rfl, rfl⟩
        go_wp2_with fail
        refine (under_is a0 a0 true _ (by omega) (by omega) U1).mono ?_
        rintro e w2 ⟨rfl, hB⟩
        have n2 := n1.trans (hB.mono s1)
        have s2 := n2.size
        clear hB n1 s1
        go_wp2_with fail
        refine (under_is a0 _ true _ (by omega) (by decide) U2).mono ?_
        rintro e w3 ⟨rfl, hB⟩
        have n3 := n2.trans (hB.mono s2)
        have s3 := n3.size
        clear hB n2 s2
        go_wp2_with fail
        refine (under_is a0 a1 false _ (by omega) (by omega) U3).mono ?_
        rintro e w4 ⟨rfl, hB⟩
        have n4 := n3.trans (hB.mono s3)
        have s4 := n4.size
        clear hB n3 s3
        go_wp2_with fail
        have hrow := own_new w4 w4.heap.size [a2.data.toList] #[.string a2] 1 (Nat.le_refl _) (by rw [strCs_one, mk_data]) rfl (by decide)
        have HROW := Lib.hid hrow
        clear hrow
        refine (labels_any a0 A _ (by omega) HLab).mono ?_
        rintro e w20 ⟨v, rfl, hO, hB⟩
        have hsrc := own_src hO rfl
        rw [HNA.out] at hsrc
        have HR1 := Lib.hid (own_below HROW.out hB)
        have HSRC := Lib.hid hsrc
        have hB20 : Below w.heap.size w w20 := (n4.alloc s4 _).trans (hB.mono (by simp; omega))
        have hg20 : w4.heap.size ≤ w20.heap.size := by have := hB.size; simp at this; omega
        clear hO hsrc hB HROW
        go_wp2_with (at_builtin; refine wpList_append_strs rfl _ _ rfl w4.heap.size _ 1 (strCs [a2.data.toList]) rfl HR1.out nA A HSRC.out (by omega) hg20 ?_)
        intro v' w21 hown hgrow
        have hown2 : w21.ownsRow w4.heap.size 9 1 v' (1 + nA) (strCs L) := by
          rw [← strCs_cat] at hown
          rw [← HLL.out]
          exact hown
        have hB21 : Below w.heap.size w w21 := hB20.grown hgrow hB20.size (fun k hk => by have := (HR1.out.lt k hk).1; omega)
        have hLlen : 1 + nA = L.length := by rw [← HLL.out, List.length_cons, HNA.out]; omega
        obtain ⟨A', c', rfl, _, hrd, _⟩ := own_rds hown2 hLlen
        have HRD := Lib.hid hrd
        have HLL2 := Lib.hid hLlen.symm
        have s21 := hB21.size
        clear hown hown2 hgrow hrd hLlen HR1 HSRC hB20 hg20
        go_wp2_with fail
        refine (make_is A' c' (1 + nA) L x E _ HRD.out HLL2 (by omega) HX HE).mono ?_
        rintro e w22 ⟨rfl, hB⟩
        have n22 := hB21.trans (hB.mono s21)
        have s22 := n22.size
        clear hB hB21 s21
        by_cases hE0 : E = 0
        · have hmE : makeE L = 0 := HE.out.trans hE0
          have hlx := labels_make hmE
          have hxl : x.data.toList = makeL L := by rw [← HX.out, mk_list]
          rw [← hxl, ← HLL.out] at hlx
          have hI := isN_of hlx
          have V1 : Hid (underN x.data.toList a0.data.toList = true) := Lib.hid (by rw [underN_of hlx HLA.out, underL_cons])
          have V2 : Hid (underN a0.data.toList x.data.toList = false) := Lib.hid (by rw [underN_of HLA.out hlx, underL_not])
          have hlen : x.size = a0.size + a2.size + 1 := by
            have h1 := (labels_some hlx).1
            have h2 := (labels_some HLA.out).1
            have := congrArg List.length h1
            rw [long_len, h2, ← Lib.size_eq, ← Lib.size_eq, ← Lib.size_eq] at this
            exact this.symm
          have HF : Hid (mk (foldN x.data.toList) = foldS x) := Lib.hid (by rw [foldN_yes hI]; rfl)
          have hRF := Lib.hid (fun w => refFold_any x w (by omega))
          have hxs : x.size ≤ 5200 := by omega
          have f1 : ((E : Int) != 0) = false := bne_eq_false_iff_eq.2 (by omega)
          have f2 : ((x.size : Int) == (a0.size : Int) + (a2.size : Int) + 1) = true := beq_iff_eq.2 (by omega)
          generalize foldS x = y at *
          have f3 : (y.toList == y.toList) = true := beq_self_eq_true _
          clear hE0 hmE hlx hxl hI hlen
          go_wp2_with fail
          refine (under_is x a0 true _ (by omega) (by omega) V1).mono ?_
          rintro e w23 ⟨rfl, hB⟩
          have n23 := n22.trans (hB.mono s22)
          have s23 := n23.size
          clear hB n22 s22
          go_wp2_with fail
          refine (under_is a0 x false _ (by omega) (by omega) V2).mono ?_
          rintro e w24 ⟨rfl, hB⟩
          have n24 := n23.trans (hB.mono s23)
          have s24 := n24.size
          clear hB n23 s23
          go_wp2_with fail
          refine (under_is a0 a1 false _ (by omega) (by omega) U3).mono ?_
          rintro e w25 ⟨rfl, hB⟩
          have n25 := n24.trans (hB.mono s24)
          have s25 := n25.size
          clear hB n24 s24
          go_wp2_with fail
          refine (hRF.out _).mono ?_
          rintro e w30 ⟨rfl, hB⟩
          have n30 := n25.trans (hB.mono s25)
          have s30 := n30.size
          clear hB n25 s25
          go_wp2_with fail
          refine (nameFold_is x y _ (by omega) HF).mono ?_
          rintro e w31 ⟨rfl, hB⟩
          have n31 := n30.trans (hB.mono s30)
          go_wp2_with fail
          go_ret
          exact ⟨rfl, n31⟩
        · have f1 : ((E : Int) != 0) = true := bne_iff_ne.2 (by omega)
          obtain rfl : ⟨#[]⟩ = x := by rw [← HX.out, makeL_no (by rw [HE.out]; exact hE0)]; rfl
          clear hE0
          go_wp2_with fail
          go_ret
          exact ⟨rfl, n22⟩

set_option maxRecDepth 100000 in
theorem lifted (os : Os) (started : os.Started) (H : Type) (enc : TypeId × Value → H) :
    ReturnsInHanded {} Try.checked os 7 .any (Rows.nameZonesSpec.pre6 enc Try.prog Try.f7 Rows.nameZonesRow.domain false) (Rows.nameZonesSpec.post enc Try.prog Try.f7 false true false false) := by
  refine returnsInHanded_of_change (C := Try.checked) own started (by kernel_rfl) Try.func7
    (ChangeSpec.witness6 (enc := enc) (C := Try.checked) false ⟨#[], #[.string ByteArray.empty, .string ByteArray.empty, .string ByteArray.empty], []⟩ 8 (by kernel_rfl) (by kernel_rfl) (by kernel_rfl) (by kernel_rfl)) ?_
  intro W base args ds gs before hval0 hW hcnd _
  have hval : ∀ (j : Nat) t v, Try.f7.params[j]? = some t → args[j]? = some v → Value.okWide Try.prog W .any base t v := hval0
  have hW' := hW
  obtain ⟨p, q, hA0, hV, rfl, hfz, hnd⟩ := hW
  have hA : DataW.TrodAll enc Try.prog W 0 (fun _ => true) true Try.f7.params.toList args.toList ds p := hA0
  rw [Try.params7] at hA hval
  obtain ⟨v0, vs0, d0, ds0, p0, q0, hargs, rfl, rfl, h0, r0⟩ := trodAll_cons hA
  obtain ⟨v1, vs1, d1, ds1, p1, q1, rfl, rfl, rfl, h1, r1⟩ := trodAll_cons r0
  obtain ⟨v2, vs2, d2, ds2, p2, q2, rfl, rfl, rfl, h2, r2⟩ := trodAll_cons r1
  obtain ⟨rfl, rfl, rfl⟩ := trodAll_nil r2
  obtain rfl : args = #[v0, v1, v2] := by cases args; simp_all
  obtain ⟨rfl, rfl⟩ := trodVars_none hV
  obtain ⟨a0, rfl, rfl, rfl, w0⟩ := open_string Try.underlying9 (hval 0 9 v0 rfl rfl) h0
  obtain ⟨a1, rfl, rfl, rfl, w1⟩ := open_string Try.underlying9 (hval 1 9 v1 rfl rfl) h1
  obtain ⟨a2, rfl, rfl, rfl, w2⟩ := open_string Try.underlying9 (hval 2 9 v2 rfl rfl) h2
  clear hA0 hval0
  simp only [List.append_nil] at hW'
  refine (walk a0 a1 a2 w0 w1 w2 W).mono fun e W' ⟨he, hg⟩ => ?_
  subst he
  exact ⟨_, rfl, _, _, _, [], [], [], hW', (trodAll_cons_mk (shut_bool Try.underlying4 _) trodAll_mk0), (trodAll_cons_mk (shut_string Try.underlying9 w0) (trodAll_cons_mk (shut_string Try.underlying9 w1) (trodAll_cons_mk (shut_string Try.underlying9 w2) trodAll_mk0))), rfl, hg.frame _, fun h => by cases h⟩

theorem over : Rows.nameZonesRow.holds Try.pinned (OpenSpec.ofChange Rows.nameZonesSpec) :=
  OpenClaim.holds_of_wide 7 Try.f7 rfl rfl rfl rfl rfl rfl rfl ⟨rfl, rfl, rfl, rfl, rfl⟩ rfl rfl rfl rfl rfl (by kernel_rfl) Try.func7 (by kernel_rfl)
    (of_decide_eq_true (by kernel_rfl)) (by unfold Func.isWrapper; first | (rw [if_pos (by decide +kernel)]; kernel_rfl) | (rw [if_neg (by decide +kernel)]; exact ⟨rfl, rfl⟩))
    (fun os started H enc _ => lifted os started H enc)

theorem proved : Rows.NameZonesSaid :=
  over
#print axioms proved
end Go.Proofs.Ytepbpaaielfpnaa.nameZones
