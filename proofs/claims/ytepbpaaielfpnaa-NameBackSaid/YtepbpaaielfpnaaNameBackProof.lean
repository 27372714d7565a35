/- Proves NameBack: a name comes back from its text, and from its labels; a text that is read is that name's text. No condition. -/
import Derived.Test.YtepbpaaielfpnaaRows
import Derived.WalkKit
import Derived.ProofKit
import Derived.OpenShut
import Derived.ShutString
import Derived.Test.YtepbpaaielfpnaaNameAwake
import Derived.Below
namespace Go.Proofs.Ytepbpaaielfpnaa.nameBack
open Go.ChangeShapes Go.WideShapes Go.ChangeAt Go.RowKit
open Go.ChangeMaps (open_string shut_string)
set_option linter.unusedVariables false      -- a walk need not use every 'w<i>' (that an integer argument fits its kind)

theorem own : ownKnob Try.prog.godebug = none := by kernel_rfl

open Bytes Low Strs NameMath
theorem isN_len {s : ByteArray} (h : isN s.data.toList = true) : s.size ≤ 255 := by
  obtain ⟨L, hL⟩ := isN_some h
  rw [Lib.size_eq]
  exact (labels_some hL).2.2
theorem readl_eq {t x : ByteArray} (h : mk (readL t.data.toList) = x) : readL t.data.toList = x.data.toList := by rw [← h, mk_list]
theorem text_len {s : ByteArray} (h : isN s.data.toList = true) : (mk (textN s.data.toList)).size ≤ 1016 := by
  obtain ⟨L, hL⟩ := isN_some h
  rw [mk_size, textN_of hL]
  unfold textL
  split
  · exact by decide
  · have := txt_bound hL L.length
    rw [List.take_length] at this
    exact this

theorem walk (a0 : ByteArray) (a1 : ByteArray) (w0 : a0.size ≤ maxLen) (w1 : a1.size ≤ maxLen) (w : World) :
    Calls Try.prog 6 #[.string a0, .string a1] w fun e w' => e = .returned (.bool true) ∧ Below w.heap.size w w' := by
  have n0 : Below w.heap.size w w := Below.refl _ _
  by_cases h1 : (2000 : Int) < a0.size
  · go_enter Try.func6, Try.ntmps6
    go_wp2_with fail
    refine (awake_any _).mono ?_
    rintro e w1 ⟨rfl, hB⟩
    go_wp2_with fail
    go_ret
    exact ⟨rfl, hB⟩
  by_cases h2 : (2000 : Int) < a1.size
  · go_enter Try.func6, Try.ntmps6
    go_wp2_with fail
    refine (awake_any _).mono ?_
    rintro e w1 ⟨rfl, hB⟩
    go_wp2_with fail
    go_ret
    exact ⟨rfl, hB⟩
  have hs : a0.size ≤ 2000 := by omega
  have ht : a1.size ≤ 2000 := by omega
  obtain ⟨x, hx⟩ : ∃ x, mk (readL a1.data.toList) = x := ⟨_, rfl⟩
  obtain ⟨E, hE⟩ : ∃ E, readE a1.data.toList = E := ⟨_, rfl⟩
  have HX := Lib.hid hx
  have HE := Lib.hid hE
  cases hN : isN a0.data.toList with
  | true =>
    have HN := Lib.hid hN
    obtain ⟨y, hy⟩ : ∃ y, mk (textN a0.data.toList) = y := ⟨_, rfl⟩
    have hyl := text_len hN
    rw [hy] at hyl
    have hb := back_read hN
    have hyt : y.data.toList = textN a0.data.toList := by rw [← hy, mk_list]
    rw [← hyt] at hb
    have HY := Lib.hid hy
    have HR1 : Hid (mk (readL y.data.toList) = a0) := by show _ = _; rw [hb.2, mk_data]
    have HR2 : Hid (readE y.data.toList = 0) := hb.1
    obtain ⟨L, hL⟩ := isN_some hN
    have HLab := Lib.hid (labL_of hL)
    have hmk := make_labels hL
    have HM1 : Hid (makeE L = 0) := hmk.1
    have HM2 : Hid (mk (makeL L) = a0) := by show _ = _; rw [hmk.2, mk_data]
    have hLc := (lab_small hL).1
    have f0 : (a0.toList == a0.toList) = true := beq_self_eq_true _
    clear hN hy hb hyt hL hmk
    go_enter Try.func6, Try.ntmps6
    go_wp2_with fail
    refine (awake_any _).mono ?_
    rintro e w1 ⟨rfl, n1⟩
    have s1 := n1.size
    clear n0
    go_wp2_with fail
    refine (is_is a0 true _ (by omega) HN).mono ?_
    rintro e w' ⟨rfl, rfl⟩
    go_wp2_with fail
    refine (nameText_is a0 y _ (by omega) HY).mono ?_
    rintro e w2 ⟨rfl, hB⟩
    have n2 := n1.trans (hB.mono s1)
    have s2 := n2.size
    clear hB n1 s1
    go_wp2_with fail
    refine (read_is y a0 0 _ (by omega) HR1 HR2).mono ?_
    rintro e w3 ⟨rfl, hB⟩
    have n3 := n2.trans (hB.mono s2)
    have s3 := n3.size
    clear hB n2 s2
    go_wp2_with fail
    refine (labels_any a0 L _ (by omega) HLab).mono ?_
    rintro e w4 ⟨v, rfl, hO, hB⟩
    obtain ⟨A, c, rfl, _, hr, _⟩ := own_rds hO rfl
    have HRd := Lib.hid hr
    have n4 := n3.trans (hB.mono s3)
    have s4 := n4.size
    clear hB n3 s3 hO hr
    go_wp2_with fail
    refine (make_is A c L.length L a0 0 _ HRd.out (Lib.hid rfl) (by omega) HM2 HM1).mono ?_
    rintro e w5 ⟨rfl, hB⟩
    have n5 := n4.trans (hB.mono s4)
    have s5 := n5.size
    clear hB n4 s4
    go_wp2_with fail
    refine (read_is a1 x E _ (by omega) HX HE).mono ?_
    rintro e w6 ⟨rfl, hB⟩
    have n6 := n5.trans (hB.mono s5)
    have s6 := n6.size
    clear hB n5 s5
    by_cases hE0 : E = 0
    · have hbk := back_text (hE.trans hE0)
      rw [readl_eq hx] at hbk
      have HI := Lib.hid hbk.1
      have hxs : x.size ≤ 255 := isN_len hbk.1
      have HT : Hid (mk (textN x.data.toList) = a1) := by show _ = _; rw [hbk.2, mk_data]
      have f1 : ((E : Int) != 0) = false := bne_eq_false_iff_eq.2 (by omega)
      have f2 : ((E : Int) == 0) = true := beq_iff_eq.2 (by omega)
      have f3 : (a1.toList == a1.toList) = true := beq_self_eq_true _
      clear hbk hE0 hE hx
      go_wp2_with fail
      refine (is_is x true _ (by omega) HI).mono ?_
      rintro e w' ⟨rfl, rfl⟩
      go_wp2_with fail
      refine (nameText_is x a1 _ (by omega) HT).mono ?_
      rintro e w7 ⟨rfl, hB⟩
      have n7 := n6.trans (hB.mono s6)
      clear hB n6 s6
      go_wp2_with fail
      go_ret
      exact ⟨rfl, n7⟩
    · have hbn := back_no (t := a1.data.toList) (by rw [hE]; exact hE0)
      obtain rfl : ⟨#[]⟩ = x := by rw [← hx, hbn]; rfl
      have f1 : ((E : Int) != 0) = true := bne_iff_ne.2 (by omega)
      have f2 : ((E : Int) == 0) = false := beq_eq_false_iff_ne.2 (by omega)
      clear hbn hE0 hE hx
      go_wp2_with fail
      go_ret
      exact ⟨rfl, n6⟩
  | false =>
    have HN := Lib.hid hN
    have HY : Hid (mk (textN a0.data.toList) = ⟨#[]⟩) := by show _ = _; rw [textN_no hN]; rfl
    have HLab := Lib.hid (labL_no hN)
    clear hN
    go_enter Try.func6, Try.ntmps6
    go_wp2_with fail
    refine (awake_any _).mono ?_
    rintro e w1 ⟨rfl, n1⟩
    have s1 := n1.size
    clear n0
    go_wp2_with fail
    refine (is_is a0 false _ (by omega) HN).mono ?_
    rintro e w' ⟨rfl, rfl⟩
    go_wp2_with fail
    refine (nameText_is a0 _ _ (by omega) HY).mono ?_
    rintro e w2 ⟨rfl, hB⟩
    have n2 := n1.trans (hB.mono s1)
    have s2 := n2.size
    clear hB n1 s1
    go_wp2_with fail
    refine (labels_any a0 [] _ (by omega) HLab).mono ?_
    rintro e w3 ⟨v, rfl, hO, hB⟩
    obtain ⟨A, c, rfl, _, _, _⟩ := own_rds hO rfl
    have n3 := n2.trans (hB.mono s2)
    have s3 := n3.size
    clear hB n2 s2 hO
    rw [List.length_nil]
    go_wp2_with fail
    refine (read_is a1 x E _ (by omega) HX HE).mono ?_
    rintro e w4 ⟨rfl, hB⟩
    have n4 := n3.trans (hB.mono s3)
    have s4 := n4.size
    clear hB n3 s3
    by_cases hE0 : E = 0
    · have hbk := back_text (hE.trans hE0)
      rw [readl_eq hx] at hbk
      have HI := Lib.hid hbk.1
      have hxs : x.size ≤ 255 := isN_len hbk.1
      have HT : Hid (mk (textN x.data.toList) = a1) := by show _ = _; rw [hbk.2, mk_data]
      have f1 : ((E : Int) != 0) = false := bne_eq_false_iff_eq.2 (by omega)
      have f2 : ((E : Int) == 0) = true := beq_iff_eq.2 (by omega)
      have f3 : (a1.toList == a1.toList) = true := beq_self_eq_true _
      clear hbk hE0 hE hx
      go_wp2_with fail
      refine (is_is x true _ (by omega) HI).mono ?_
      rintro e w' ⟨rfl, rfl⟩
      go_wp2_with fail
      refine (nameText_is x a1 _ (by omega) HT).mono ?_
      rintro e w5 ⟨rfl, hB⟩
      have n5 := n4.trans (hB.mono s4)
      clear hB n4 s4
      go_wp2_with fail
      go_ret
      exact ⟨rfl, n5⟩
    · have hbn := back_no (t := a1.data.toList) (by rw [hE]; exact hE0)
      obtain rfl : ⟨#[]⟩ = x := by rw [← hx, hbn]; rfl
      have f1 : ((E : Int) != 0) = true := bne_iff_ne.2 (by omega)
      have f2 : ((E : Int) == 0) = false := beq_eq_false_iff_ne.2 (by omega)
      clear hbn hE0 hE hx
      go_wp2_with fail
      go_ret
      exact ⟨rfl, n4⟩

set_option maxRecDepth 100000 in
theorem lifted (os : Os) (started : os.Started) (H : Type) (enc : TypeId × Value → H) :
    ReturnsInHanded {} Try.checked os 6 .any (Rows.nameBackSpec.pre6 enc Try.prog Try.f6 Rows.nameBackRow.domain false) (Rows.nameBackSpec.post enc Try.prog Try.f6 false true false false) := by
  refine returnsInHanded_of_change (C := Try.checked) own started (by kernel_rfl) Try.func6
    (ChangeSpec.witness6 (enc := enc) (C := Try.checked) false ⟨#[], #[.string ByteArray.empty, .string ByteArray.empty], []⟩ 8 (by kernel_rfl) (by kernel_rfl) (by kernel_rfl) (by kernel_rfl)) ?_
  intro W base args ds gs before hval0 hW hcnd _
  have hval : ∀ (j : Nat) t v, Try.f6.params[j]? = some t → args[j]? = some v → Value.okWide Try.prog W .any base t v := hval0
  have hW' := hW
  obtain ⟨p, q, hA0, hV, rfl, hfz, hnd⟩ := hW
  have hA : DataW.TrodAll enc Try.prog W 0 (fun _ => true) true Try.f6.params.toList args.toList ds p := hA0
  rw [Try.params6] at hA hval
  obtain ⟨v0, vs0, d0, ds0, p0, q0, hargs, rfl, rfl, h0, r0⟩ := trodAll_cons hA
  obtain ⟨v1, vs1, d1, ds1, p1, q1, rfl, rfl, rfl, h1, r1⟩ := trodAll_cons r0
  obtain ⟨rfl, rfl, rfl⟩ := trodAll_nil r1
  obtain rfl : args = #[v0, v1] := by cases args; simp_all
  obtain ⟨rfl, rfl⟩ := trodVars_none hV
  obtain ⟨a0, rfl, rfl, rfl, w0⟩ := open_string Try.underlying9 (hval 0 9 v0 rfl rfl) h0
  obtain ⟨a1, rfl, rfl, rfl, w1⟩ := open_string Try.underlying9 (hval 1 9 v1 rfl rfl) h1
  clear hA0 hval0
  simp only [List.append_nil] at hW'
  refine (walk a0 a1 w0 w1 W).mono fun e W' ⟨he, hg⟩ => ?_
  subst he
  exact ⟨_, rfl, _, _, _, [], [], [], hW', (trodAll_cons_mk (shut_bool Try.underlying4 _) trodAll_mk0), (trodAll_cons_mk (shut_string Try.underlying9 w0) (trodAll_cons_mk (shut_string Try.underlying9 w1) trodAll_mk0)), rfl, hg.frame _, fun h => by cases h⟩

theorem over : Rows.nameBackRow.holds Try.pinned (OpenSpec.ofChange Rows.nameBackSpec) :=
  OpenClaim.holds_of_wide 6 Try.f6 rfl rfl rfl rfl rfl rfl rfl ⟨rfl, rfl, rfl, rfl, rfl⟩ rfl rfl rfl rfl rfl (by kernel_rfl) Try.func6 (by kernel_rfl)
    (of_decide_eq_true (by kernel_rfl)) (by unfold Func.isWrapper; first | (rw [if_pos (by decide +kernel)]; kernel_rfl) | (rw [if_neg (by decide +kernel)]; exact ⟨rfl, rfl⟩))
    (fun os started H enc _ => lifted os started H enc)

theorem proved : Rows.NameBackSaid :=
  over
#print axioms proved
end Go.Proofs.Ytepbpaaielfpnaa.nameBack
