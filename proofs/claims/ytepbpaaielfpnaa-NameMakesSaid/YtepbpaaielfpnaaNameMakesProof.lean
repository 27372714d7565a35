/- Proves NameMakes: any labels come to just the document's name, or are refused; any bytes have just its labels, or are none. No condition. -/
import Derived.Test.YtepbpaaielfpnaaRows
import Derived.Test.YtepbpaaielfpnaaNameAwake
import Derived.WalkKit
import Derived.ProofKit
import Derived.OpenShut
import Derived.ShutString
import Derived.ChangeOld
import Derived.SliceStrings
import Derived.Below
namespace Go.Proofs.Ytepbpaaielfpnaa.nameMakes
open Go.ChangeShapes Go.WideShapes Go.ChangeAt Go.RowKit
open Go.ChangeMaps (open_string shut_string)
open Bytes Low Strs NameMath
set_option linter.unusedVariables false

theorem own : ownKnob Try.prog.godebug = none := by kernel_rfl
theorem laidOut : laidOutB Try.prog = true := by kernel_rfl

/-- A slice of texts that came in: nil, or at an address. -/
def Came (w : World) (v : Value) (n : Nat) (L : List (List UInt8)) : Prop := L.length = n ∧ Srcs w v n L
theorem came_rds {w : World} {a : Option Addr} {n c : Nat} {L : List (List UInt8)} (h : Came w (.slice a n c) n L) : RdS w w.heap.size a L := by
  obtain ⟨hl, h⟩ := h
  rcases h with ⟨hv, h0, rfl⟩ | ⟨ad, c', hv, hn, hc⟩
  · exact RdS.void _ _ _
  · injection hv with e1 e2 e3
    intro hp
    exact ⟨ad, e1, by have := World.block_lt_of_cell? _ _ (hc 0 hp); rwa [add_block] at this, hc⟩
theorem came_of_trod {H : Type} {enc : TypeId × Value → H} {w : World} {base : Nat} {spare : Nat → Bool} {held : Bool} {fuel : Nat} {a : Option Addr} {len cap : Nat} {x : DataW H × List MemPlace}
    (h : DataW.trod enc Try.prog w base spare held fuel 22 [.slice a len cap] = some x) : len ≤ maxLen ∧ ∃ L, Came w (.slice a len cap) len L := by
  rcases open_strings Try.underlying22 Try.underlying9 (by kernel_rfl) h with ⟨hcs, _⟩ | ⟨ad, l, c, ss, hcs, _, hl, hm, hz, _, hcell, _⟩
  · simp at hcs
    obtain ⟨rfl, rfl, rfl⟩ := hcs
    exact ⟨Nat.zero_le _, [], rfl, Or.inl ⟨rfl, rfl, rfl⟩⟩
  · simp at hcs
    obtain ⟨rfl, rfl, rfl⟩ := hcs
    have hls : len ≤ ss.length := by rw [hz]; split <;> omega
    have hlen : ((ss.take len).map fun s => s.data.toList).length = len := by rw [List.length_map, List.length_take]; omega
    refine ⟨by omega, (ss.take len).map fun s => s.data.toList, hlen, Or.inr ⟨ad, cap, rfl, hlen.symm, fun k hk => ?_⟩⟩
    rw [hlen] at hk
    rw [hcell k (by omega)]
    refine congrArg (fun s => some (Value.string s)) ?_
    have hk2 : k < (ss.take len).length := by rw [List.length_take]; omega
    rw [List.getD_eq_getElem?_getD, List.getD_eq_getElem?_getD, List.getElem?_map, List.getElem?_eq_getElem hk2, List.getElem_take, List.getElem?_eq_getElem (by omega)]
    exact (mk_data _).symm

set_option maxHeartbeats 4000000 in
set_option maxRecDepth 100000 in
theorem walk (a0 : Option Addr) (n cap : Nat) (L : List (List UInt8)) (a1 : ByteArray) (w : World) (hC : Came w (.slice a0 n cap) n L) (hn : n ≤ maxLen) (w1 : a1.size ≤ maxLen) :
    Calls Try.prog 3 #[.slice a0 n cap, .string a1] w fun e w' => e = .returned (.bool true) ∧ Below w.heap.size w w' := by
  have n0 : Below w.heap.size w w := Below.refl _ _
  have HN := Lib.hid hC.1
  have HRD := Lib.hid (came_rds hC)
  have HSRC := Lib.hid hC.2
  clear hC
  by_cases h1 : (5000 : Int) < a1.size
  · go_enter Try.func3, Try.ntmps3
    go_wp2_with fail
    refine (awake_any _).mono ?_
    rintro e w1 ⟨rfl, n1⟩
    have s1 := n1.size
    go_wp2_with fail
    refine (few_any a0 cap n L _ (HRD.out.on n1 s1) HN hn).mono ?_
    rintro e w' ⟨b, rfl, hfew, rfl⟩
    cases b with
    | false =>
      go_wp2_with fail
      go_ret
      exact ⟨rfl, n1⟩
    | true =>
      go_wp2_with fail
      go_ret
      exact ⟨rfl, n1⟩
  have hs : a1.size ≤ 5000 := by omega
  obtain ⟨x, hx⟩ : ∃ x, mk (makeL L) = x := ⟨_, rfl⟩
  obtain ⟨E, hE⟩ : ∃ E, makeE L = E := ⟨_, rfl⟩
  have HX := Lib.hid hx
  have HE := Lib.hid hE
  have fx : (x.toList == x.toList) = true := beq_self_eq_true _
  have fE : ((E : Int) == (E : Int)) = true := beq_self_eq_true _
  clear hx hE
  go_enter Try.func3, Try.ntmps3
  go_wp2_with fail
  refine (awake_any _).mono ?_
  rintro e w1 ⟨rfl, n1⟩
  have s1 := n1.size
  go_wp2_with fail
  refine (few_any a0 cap n L _ (HRD.out.on n1 s1) HN hn).mono ?_
  rintro e w' ⟨b, rfl, hfew, rfl⟩
  cases b with
  | false =>
    go_wp2_with fail
    go_ret
    exact ⟨rfl, n1⟩
  | true =>
    have hn5 := hfew rfl
    have hrow := own_new w1 w1.heap.size [] #[] 0 (Nat.le_refl _) rfl rfl (by decide)
    have HROW := Lib.hid hrow
    have HSRC1 := Lib.hid (srcs_below HSRC.out (n1.trans ((Below.refl _ w1).alloc (Nat.le_refl _) (.cells #[] 9) |>.mono s1)))
    clear hrow hfew
    have hg1 : w1.heap.size ≤ (w1.alloc (.cells #[] 9)).heap.size := by simp
    go_wp2_with (at_builtin; refine wpList_append_strs rfl _ _ rfl w1.heap.size _ 0 (strCs []) rfl HROW.out n L HSRC1.out (by omega) hg1 ?_)
    intro v' w2 hown hgrow
    have hown2 : w2.ownsRow w1.heap.size 9 1 v' n (strCs L) := hown
    have hB1 : Below w.heap.size w (w1.alloc (.cells #[] 9)) := n1.alloc s1 _
    have n2 : Below w.heap.size w w2 := hB1.grown hgrow hB1.size (fun k hk => by have := (HROW.out.lt k hk).1; omega)
    obtain ⟨A', c', rfl, _, hrd, _⟩ := own_rds hown2 HN.out.symm
    have HRD2 := Lib.hid hrd
    have s2 := n2.size
    clear hown hown2 hgrow hrd HROW HSRC1 hB1 n1 s1 hg1
    go_wp2_with fail
    refine (make_is A' c' n L x E _ HRD2.out HN (by omega) HX HE).mono ?_
    rintro e w3 ⟨rfl, hB⟩
    have n3 := n2.trans (hB.mono s2)
    have s3 := n3.size
    clear hB n2 s2 HRD2
    go_wp2_with fail
    refine (refMake_is a0 cap n L x E _ (HRD.out.on n3 s3) HN (by omega) HX HE).mono ?_
    rintro e w4 ⟨rfl, hB⟩
    have n4 := n3.trans (hB.mono s3)
    have s4 := n4.size
    clear hB n3 s3
    go_wp2_with fail
    cases hI : isN a1.data.toList with
    | true =>
      have HI := Lib.hid hI
      obtain ⟨M, hM⟩ := isN_some hI
      have HM := Lib.hid hM
      have HLab := Lib.hid (labL_of hM)
      have hMc := (lab_small hM).1
      obtain ⟨m, hm0⟩ : ∃ m, M.length = m := ⟨_, rfl⟩
      rw [hm0] at hMc
      have HM0 := Lib.hid hm0
      clear hI hM hm0
      refine (refLabels_yes a1 M _ (by omega) HM).mono ?_
      rintro e w5 ⟨v5, rfl, hO5, hB⟩
      have n5 := n4.trans (hB.mono s4)
      have s5 := n5.size
      rw [HM0.out] at hO5
      obtain ⟨A5, c5, rfl, _, hr5, _⟩ := own_rds hO5 HM0.out.symm
      have HR5 := Lib.hid hr5
      clear hB n4 s4 hO5 hr5
      go_wp2_with fail
      refine (is_is a1 true _ (by omega) HI).mono ?_
      rintro e w' ⟨rfl, rfl⟩
      go_wp2_with fail
      refine (labels_any a1 M _ (by omega) HLab).mono ?_
      rintro e w6 ⟨v6, rfl, hO6, hB⟩
      have n6 := n5.trans (hB.mono s5)
      have s6 := n6.size
      have HR5' := Lib.hid (HR5.out.on hB hB.size)
      rw [HM0.out] at hO6
      obtain ⟨A6, c6, rfl, _, hr6, _⟩ := own_rds hO6 HM0.out.symm
      have HR6 := Lib.hid hr6
      clear hB n5 s5 hO6 hr6 HR5
      go_wp2_with fail
      refine (lawSame_is A6 A5 c6 c5 m m M M true _ HR6.out HR5'.out HM0 HM0 (by omega) (Lib.hid (decide_eq_true rfl))).mono ?_
      rintro e w7 ⟨rfl, hB⟩
      have n7 := n6.trans (hB.mono s6)
      clear hB n6 s6
      go_wp2_with fail
      go_ret
      exact ⟨rfl, n7⟩
    | false =>
      have HI := Lib.hid hI
      have HLab := Lib.hid (labL_no hI)
      clear hI
      refine (refLabels_no a1 _ (by omega) HI).mono ?_
      rintro e w5 ⟨v5, rfl, hB⟩
      have n5 := n4.trans (hB.mono s4)
      have s5 := n5.size
      clear hB n4 s4
      go_wp2_with fail
      refine (is_is a1 false _ (by omega) HI).mono ?_
      rintro e w' ⟨rfl, rfl⟩
      go_wp2_with fail
      refine (labels_any a1 [] _ (by omega) HLab).mono ?_
      rintro e w6 ⟨v6, rfl, hO6, hB⟩
      have n6 := n5.trans (hB.mono s5)
      have s6 := n6.size
      rw [List.length_nil] at hO6
      obtain ⟨A6, c6, rfl, _, hr6, _⟩ := own_rds hO6 rfl
      have HR6 := Lib.hid hr6
      clear hB n5 s5 hO6 hr6
      go_wp2_with fail
      refine (lawSame_is A6 none c6 0 0 0 [] [] true _ HR6.out (RdS.void _ _ _) (Lib.hid rfl) (Lib.hid rfl) (by omega) (Lib.hid (decide_eq_true rfl))).mono ?_
      rintro e w7 ⟨rfl, hB⟩
      have n7 := n6.trans (hB.mono s6)
      clear hB n6 s6
      go_wp2_with fail
      go_ret
      exact ⟨rfl, n7⟩

set_option maxRecDepth 100000 in
theorem lifted (os : Os) (started : os.Started) (H : Type) (enc : TypeId × Value → H) :
    ReturnsInHanded {} Try.checked os 3 .any (Rows.nameMakesSpec.pre6 enc Try.prog Try.f3 Rows.nameMakesRow.domain false) (Rows.nameMakesSpec.post enc Try.prog Try.f3 false true false false) := by
  refine returnsInHanded_of_change (C := Try.checked) own started (by kernel_rfl) Try.func3
    (ChangeSpec.witness6 (enc := enc) (C := Try.checked) false ⟨#[], #[.slice none 0 0, .string ByteArray.empty], []⟩ 8 (by kernel_rfl) (by kernel_rfl) (by kernel_rfl) (by kernel_rfl)) ?_
  intro W base args ds gs before hval0 hW hcnd _
  have hval : ∀ (j : Nat) t v, Try.f3.params[j]? = some t → args[j]? = some v → Value.okWide Try.prog W .any base t v := hval0
  have hW' := hW
  obtain ⟨p, q, hA0, hV, rfl, hfz, hnd⟩ := hW
  have hA : DataW.TrodAll enc Try.prog W 0 (fun _ => true) true Try.f3.params.toList args.toList ds p := hA0
  rw [Try.params3] at hA hval
  obtain ⟨v0, vs0, d0, ds0, p0, q0, hargs, rfl, rfl, h0, r0⟩ := trodAll_cons hA
  obtain ⟨v1, vs1, d1, ds1, p1, q1, rfl, rfl, rfl, h1, r1⟩ := trodAll_cons r0
  obtain ⟨rfl, rfl, rfl⟩ := trodAll_nil r1
  obtain rfl : args = #[v0, v1] := by cases args; simp_all
  obtain ⟨rfl, rfl⟩ := trodVars_none hV
  obtain ⟨a0, len0, cap0, rfl⟩ := okWide_slice Try.underlying22 (hval 0 22 v0 rfl rfl)
  have k0 := h0
  have lt0 : ∀ x ∈ p0, x.block < W.heap.size := by obtain ⟨m, hm⟩ := k0; exact DataW.trod_lt m _ _ _ hm
  obtain ⟨hlm, L, hcame⟩ : len0 ≤ maxLen ∧ ∃ L, Came W (.slice a0 len0 cap0) len0 L := by
    obtain ⟨fuel, hf⟩ := h0
    exact came_of_trod hf
  obtain ⟨a1, rfl, rfl, rfl, w1⟩ := open_string Try.underlying9 (hval 1 9 v1 rfl rfl) h1
  clear hA0 hval0
  refine (walk a0 len0 cap0 L a1 W hcame hlm w1).mono fun e W' ⟨he, bel⟩ => ?_
  subst he
  exact ⟨_, rfl, _, _, _, [], _, [], hW', trodAll_mk1 (shut_bool Try.underlying4 _), (trodAll_cons_mk (Below.trod laidOut (by kernel_rfl) (of_decide_eq_true (by kernel_rfl)) k0 bel lt0) (trodAll_cons_mk (shut_string Try.underlying9 w1) trodAll_mk0)), rfl, bel.frame _, fun h => by cases h⟩

theorem over : Rows.nameMakesRow.holds Try.pinned (OpenSpec.ofChange Rows.nameMakesSpec) :=
  OpenClaim.holds_of_wide 3 Try.f3 rfl rfl rfl rfl rfl rfl rfl ⟨rfl, rfl, rfl, rfl, rfl⟩ rfl rfl rfl rfl rfl (by kernel_rfl) Try.func3 (by kernel_rfl)
    (of_decide_eq_true (by kernel_rfl)) (by unfold Func.isWrapper; first | (rw [if_pos (by decide +kernel)]; kernel_rfl) | (rw [if_neg (by decide +kernel)]; exact ⟨rfl, rfl⟩))
    (fun os started H enc _ => lifted os started H enc)

theorem proved : Rows.NameMakesSaid := over
#print axioms proved
end Go.Proofs.Ytepbpaaielfpnaa.nameMakes
